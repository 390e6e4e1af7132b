import PyProof.Rows.All
import Wide.All
import OpenK.AllK
import Wide.FinOn
import PyProof.EqAt
import PyProof.EqKinds
import PyProof.TupleCall
import KE.BitLaws
import KE.KDictList
import KE.KItemsList
import KE.KSortTupG
import PyProof.Logic
import PyProof.Rows.SortMerge
import PyProof.Rows.SortRuns
import PyProof.Rows.SortRunsK
import PyProof.Rows.SortMergeAt
import PyProof.NeKinds
import PyProof.FactsAll.list_2
import KE.KSortAsk
import PyProof.Rows.TupIn
import PyProof.Rows.SeqSlice
import PySem.Challenge.RW_sidering_k04_whole_rings
set_option Elab.async false
set_option linter.all false
set_option maxRecDepth 100000
namespace L2
open PySem PySem.Spec PyProof.Rows
abbrev Key := Sum Int Str
def keyIs : Key → Value → Bool
  | .inl k, v => Value.isInt k v
  | .inr x, v => Value.isStrOf x v
def keyH (w : World) : Key → Int
  | .inl k => hashInt k
  | .inr x => hashStr w x
theorem keyIs_shape : ∀ {k : Key} {v : Value}, keyIs k v = true → (∃ i t, k = Sum.inl i ∧ v = Value.int i t) ∨ (∃ x t, k = Sum.inr x ∧ v = Value.str x t)
  | .inl i, v, h => by
    obtain ⟨t, e⟩ := Value.isInt_shape (k := i) (v := v) h
    exact .inl ⟨i, t, rfl, e⟩
  | .inr x, v, h => by
    obtain ⟨t, e⟩ := Value.isStrOf_shape (x := x) (v := v) h
    exact .inr ⟨x, t, rfl, e⟩
theorem keyIs_int (i : Int) (t : Tok) : keyIs (.inl i) (.int i t) = true := by simp [keyIs, Value.isInt]
theorem keyIs_str (x : Str) (t : Tok) : keyIs (.inr x) (.str x t) = true := by simp [keyIs, Value.isStrOf]
theorem key_ll (a b : Int) : decide ((Sum.inl a : Key) = Sum.inl b) = (a == b) := by
  by_cases e : a = b
  · subst e; simp
  · have h : ¬ (Sum.inl a : Key) = Sum.inl b := fun q => e (Sum.inl.inj q)
    rw [decide_eq_false h]
    exact (beq_eq_false_iff_ne.mpr e).symm
theorem key_rr (a b : Str) : decide ((Sum.inr a : Key) = Sum.inr b) = decide (a = b) := by
  by_cases e : a = b
  · subst e; simp
  · have h : ¬ (Sum.inr a : Key) = Sum.inr b := fun q => e (Sum.inr.inj q)
    rw [decide_eq_false h, decide_eq_false e]
theorem key_lr (a : Int) (b : Str) : decide ((Sum.inl a : Key) = Sum.inr b) = false := decide_eq_false (fun q => nomatch q)
theorem key_rl (a : Str) (b : Int) : decide ((Sum.inr a : Key) = Sum.inl b) = false := decide_eq_false (fun q => nomatch q)
def mixKind (prog : Program) (w : World) : PySem.KeyKind prog w Key where
  is := keyIs
  hash := keyH w
  inj := fun v a b ha hb => by
    rcases keyIs_shape ha with ⟨i, t, rfl, rfl⟩ | ⟨x, t, rfl, rfl⟩
    · rcases keyIs_shape hb with ⟨j, u, rfl, e⟩ | ⟨y, u, rfl, e⟩
      · injection e with e1 _; rw [e1]
      · exact nomatch e
    · rcases keyIs_shape hb with ⟨j, u, rfl, e⟩ | ⟨y, u, rfl, e⟩
      · exact nomatch e
      · injection e with e1 _; rw [e1]
  byValue := fun k v h => by
    rcases keyIs_shape h with ⟨i, t, rfl, rfl⟩ | ⟨x, t, rfl, rfl⟩ <;> rfl
  pyHash := fun hv h => by
    rcases keyIs_shape hv with ⟨i, t, rfl, rfl⟩ | ⟨x, t, rfl, rfl⟩
    · exact wpAny_pyHash_int h
    · exact wpAny_pyHash_str h
  eqBool := fun hu hv h => by
    rcases keyIs_shape hu with ⟨i, t, rfl, rfl⟩ | ⟨x, t, rfl, rfl⟩
    · rcases keyIs_shape hv with ⟨j, u, rfl, rfl⟩ | ⟨y, u, rfl, rfl⟩
      · rw [key_ll] at h; exact wpAny_eqBool_int h
      · rw [key_lr] at h; exact SeqAt.EqAt.int_str i t y u _ _ _ _ h
    · rcases keyIs_shape hv with ⟨j, u, rfl, rfl⟩ | ⟨y, u, rfl, rfl⟩
      · rw [key_rl] at h; exact SeqAt.EqAt.str_int x t j u _ _ _ _ h
      · rw [key_rr] at h; exact wpAny_eqBool_str h
  «strs» := fun k x t v h => by
    rcases keyIs_shape h with ⟨i, u, rfl, e⟩ | ⟨y, u, rfl, e⟩
    · exact nomatch e
    · injection e with e1 _
      subst e1
      cases v <;> rfl
theorem mixKind_int (prog : Program) (w : World) (i : Int) (t : Tok) : (mixKind prog w).is (.inl i) (.int i t) = true := keyIs_int i t
theorem mixKind_str (prog : Program) (w : World) (x : Str) (t : Tok) : (mixKind prog w).is (.inr x) (.str x t) = true := keyIs_str x t
end L2
namespace L2
open PySem PySem.Spec PyProof.Rows
section
variable {prog : Program} {w : World} {κ : Type} [DecidableEq κ] (knd : HeapKind prog w κ)
def ItH (h : Heap) : List κ → List Value → Prop := Paired fun k v => ∃ b, v = Value.ref b ∧ knd.is h k b
def IsTupH (h : Heap) (ks : List κ) (a : Addr) : Prop := ∃ o items n, h.get? a = some o ∧ o.cls = .type "tuple" ∧ o.data = .seq items n ∧ ItH knd h ks items.toList
variable {knd}
theorem ItH.inj {h : Heap} {x y : List κ} {vs : List Value} (hx : ItH knd h x vs) (hy : ItH knd h y vs) : x = y := by
  revert y
  show ∀ y, Paired _ y vs → x = y
  unfold ItH at hx
  induction hx with
  | nil => intro y q; cases q; rfl
  | cons p _ ih =>
    intro y q
    cases q with
    | cons p2 q2 =>
      obtain ⟨b, e, i⟩ := p
      obtain ⟨b', e', i'⟩ := p2
      rw [e] at e'; cases e'
      rw [knd.inj i i', ih _ q2]
theorem ItH.keeps {h h' : Heap} {d : Addr} {o : Obj} {es ep} (ho : h.get? d = some o) (hd : o.data = .dict es ep) (hs : Heap.SameBut d h h') : ∀ {x : List κ} {vs : List Value}, ItH knd h x vs → ItH knd h' x vs := by
  intro x vs hx
  unfold ItH at *
  induction hx with
  | nil => exact .nil
  | cons h1 _ ih =>
    obtain ⟨b, e, i⟩ := h1
    exact .cons ⟨b, e, knd.keeps i ho hd hs⟩ ih
theorem IsTupH.typeIs {s : Shared} {ks : List κ} {a : Addr} (x : IsTupH knd s.heap ks a) : s.TypeIs (.ref a) "tuple" := let ⟨o, _, _, ho, hc, _⟩ := x; ⟨o, ho, hc⟩
theorem IsTupH.inj {h : Heap} {a : Addr} {x y : List κ} (hx : IsTupH knd h x a) (hy : IsTupH knd h y a) : x = y := by
  obtain ⟨ox, ix, nx, gx, _, dx, px⟩ := hx
  obtain ⟨oy, iy, ny, gy, _, dy, py⟩ := hy
  rw [gx] at gy; cases gy
  rw [dx] at dy; cases dy
  exact px.inj py
theorem IsTupH.keeps {h h' : Heap} {ks : List κ} {a d : Addr} {o : Obj} {es ep} (x : IsTupH knd h ks a) (ho : h.get? d = some o) (hd : o.data = .dict es ep) (hs : Heap.SameBut d h h') : IsTupH knd h' ks a := by
  obtain ⟨q, its, m, gq, cq, dq, pq⟩ := x
  refine ⟨q, its, m, (hs.2 a fun z => ?_).trans gq, cq, dq, ItH.keeps ho hd hs pq⟩
  subst z
  rw [gq] at ho; cases ho
  rw [dq] at hd; cases hd
def tupHHash (knd : HeapKind prog w κ) (ks : List κ) : Int := reduceHash (Builtin.Tuple.tupleHashOf (ks.map knd.hash))
def drH (knd : HeapKind prog w κ) (ks : List κ) : Nat := (ks.map knd.draws).sum
section
variable {A : Around} {E : Value → Shared → Prop}
theorem hashH (hr : knd.room A) (h0 : Heap) : ∀ {ks : List κ} {vs : List Value}, ItH knd h0 ks vs → ∀ {s : Shared} {b : Array Int} {Q : Array Int → Shared → Prop}, s.heap = h0 →
    (∀ b' : Array Int, b'.toList = b.toList ++ ks.map knd.hash → Q b' { s with toks := s.toks + drH knd ks }) →
    wpAny (model prog w) A (forIn vs b fun x r => do let h ← pyHash x; pure PUnit.unit; pure (ForInStep.yield (r.push h))) Q E s := by
  intro ks vs p
  unfold ItH at p
  induction p with
  | nil => exact fun {s b Q} _ h => wpAny_pure (h b (by simp))
  | @cons k v ks vs q _ ih =>
    intro s b Q e0 h
    obtain ⟨a, rfl, i⟩ := q
    rw [List.forIn_cons]
    refine wpAny_bind (wpAny_bind (knd.pyHash hr (e0 ▸ i) ?_))
    refine wpAny_bind (wpAny_pure (wpAny_pure ?_))
    refine ih (s := { s with toks := s.toks + knd.draws k }) e0 fun b' e => ?_
    have z := h b' (by rw [e]; simp)
    simpa [drH, Nat.add_assoc] using z
theorem pyHash_tupH {s : Shared} {ks : List κ} {a : Addr} {Q : Int → Shared → Prop} (hu : A.units < cLine) (hr : knd.room A.in1) (hk : IsTupH knd s.heap ks a) (h : Q (tupHHash knd ks) { s with toks := s.toks + (drH knd ks + 1) }) :
    wpAny (model prog w) A (pyHash (Value.ref a)) Q E s := by
  obtain ⟨o, its, n, g, c, d, p⟩ := id hk
  refine PySem.W.pyHash_slot hk.typeIs F.slot_tuple_hash F.entry_tuple_hash (F.args_tuple_hash_1 _) (beq_builtin_none _) (.inr hu) ?_
  show wpAny _ _ (Builtin.Tuple.tupleItemsOf (Value.ref a) >>= _) _ _ s
  refine wpAny_bind (wpAny_tupleItemsOf g d (wpAny_bind ?_))
  rw [← Array.forIn_toList]
  refine hashH hr _ p rfl fun b' e => ?_
  show wpAny _ _ (retInt (Builtin.Tuple.tupleHashOf b'.toList)) _ _ _
  rw [e]
  exact wpAny_bind (wpAny_mkInt (wpAny_pure ⟨_, _, rfl, h⟩))
theorem ItH.len {h : Heap} {x : List κ} {vs : List Value} (p : ItH knd h x vs) : x.length = vs.length := Paired.length p
theorem ItH.at {h : Heap} : ∀ {x : List κ} {vs : List Value}, ItH knd h x vs → ∀ j (h1 : j < vs.length), ∃ k b, x[j]? = some k ∧ vs[j] = Value.ref b ∧ knd.is h k b := by
  intro x vs p
  unfold ItH at p
  induction p with
  | nil => intro j h1; exact absurd h1 (Nat.not_lt_zero _)
  | cons q _ ih =>
    intro j h1
    cases j with
    | zero => obtain ⟨b, e, i⟩ := q; exact ⟨_, b, rfl, e, i⟩
    | succ j => exact ih j (Nat.lt_of_succ_lt_succ h1)
def QuietH (knd : HeapKind prog w κ) : Prop := ∀ {A : Around} {E : Value → Shared → Prop} {s : Shared} {k : κ} {a : Addr} {Q : Bool → Shared → Prop}, knd.is s.heap k a → Q true s → wpAny (model prog w) A (eqIsQuiet 7 (.ref a)) Q E s
theorem quiet_of {s : Shared} {d : Nat} {a : Addr} {o : Obj} {its : Array Value} {n : Nat} {Q : Bool → Shared → Prop} (g : s.heap.get? a = some o) (c : o.cls = .type "tuple") (dd : o.data = .seq its n)
    (hq : ∀ v ∈ its.toList, ∀ (E : Value → Shared → Prop) (R : Bool → Shared → Prop), R true s → wpAny (model prog w) A (eqIsQuiet d v) R E s) (h : Q true s) : wpAny (model prog w) A (eqIsQuiet (d + 1) (Value.ref a)) Q E s := by
  have T : s.TypeIs (.ref a) "tuple" := ⟨o, g, c⟩
  unfold eqIsQuiet
  refine wpAny_bind (wpAny_specialOf T F.slot_tuple_eq.lookup (wpAny_bind (wpAny_isInstance T isSubtype_tuple_tuple ?_)))
  rw [show (!true) = false from rfl]
  refine wpAny_bind (wpAny_seqItems g dd (wpAny_bind ?_))
  show wpAny _ _ (forIn its _ _) _ _ s
  rw [← Array.forIn_toList]
  refine wpAny_forIn_list _ (fun rest r s' => r.1 = none ∧ s' = s ∧ ∀ v ∈ rest, v ∈ its.toList) _ ?_ ?_ _ _ ⟨rfl, rfl, fun _ z => z⟩
  · rintro v rest r s' ⟨_, rfl, m⟩
    refine wpAny_bind (hq v (m v List.mem_cons_self) _ _ ?_)
    exact wpAny_pure ⟨rfl, rfl, fun u z => m u (List.mem_cons_of_mem _ z)⟩
  · rintro ⟨r1, r2⟩ s' ⟨e, rfl, _⟩
    cases (show r1 = none from e)
    exact wpAny_pure h
theorem quiet_tupH {s : Shared} (hq : QuietH knd) {ks : List κ} {a : Addr} {Q : Bool → Shared → Prop} (hk : IsTupH knd s.heap ks a) (h : Q true s) : wpAny (model prog w) A (eqIsQuiet 8 (Value.ref a)) Q E s := by
  obtain ⟨o, its, n, g, c, d, p⟩ := hk
  refine quiet_of g c d (fun v m E R q => ?_) h
  obtain ⟨j, hj, e⟩ := List.getElem_of_mem m
  obtain ⟨k, b, _, eb, i⟩ := p.at j hj
  rw [← e, eb]
  exact hq i q
end
end
section
variable {prog : Program} {w : World} {A : Around} {E : Value → Shared → Prop} {s : Shared}
theorem quietT {κ : Type} [DecidableEq κ] (knd : KeyKind prog w κ) : QuietH (tupleKind knd) := by
  intro A E s ks a Q hk h
  obtain ⟨o, its, n, g, c, d, p⟩ := hk
  refine quiet_of g c d (fun v m E R q => ?_) h
  rw [eqIsQuiet_byValue _ (p.byValue v m)]
  exact wpAny_pure q
theorem allEq {κ : Type} [DecidableEq κ] : ∀ (x y : List κ), ((List.range (min x.length y.length)).all (fun j => decide (x[j]? = y[j]?)) && x.length == y.length) = decide (x = y) := by
  intro x y
  rw [Bool.eq_iff_iff]
  simp only [Bool.and_eq_true, List.all_eq_true, List.mem_range, decide_eq_true_eq, beq_iff_eq]
  constructor
  · rintro ⟨h, l⟩
    apply List.ext_getElem?
    intro j
    by_cases z : j < min x.length y.length
    · exact h j z
    · rw [List.getElem?_eq_none (by omega), List.getElem?_eq_none (by omega)]
  · rintro rfl
    exact ⟨fun _ _ => rfl, rfl⟩
theorem itemsConv {P' : Program} {w' : World} : ∀ {ks : List Key} {vs : List Value}, ItemsAre (mixKind prog w) ks vs → ItemsAre (mixKind P' w') ks vs
  | _, _, .nil => .nil
  | _, _, .cons a b => .cons a (itemsConv b)
theorem eqAt_flat {x y : List Key} {a b : Addr} (hu : A.units < cLine) (hx : (tupleKind (mixKind prog w)).is s.heap x a) (hy : (tupleKind (mixKind prog w)).is s.heap y b) : SeqAt.EqAt A s (.ref a) (.ref b) (decide (x = y)) := fun P' w' E Q h => by
  obtain ⟨o, its, n, g, c, d, p⟩ := hx
  obtain ⟨o', its', n', g', c', d', p'⟩ := hy
  exact wpAny_eqBool_tuple (knd := mixKind P' w') hu ⟨o, its, n, g, c, d, itemsConv p⟩ ⟨o', its', n', g', c', d', itemsConv p'⟩ h
theorem eqAt_deep {x y : List (List Key)} {a b : Addr} (hu : A.units + 1 < cLine) (hx : IsTupH (tupleKind (mixKind prog w)) s.heap x a) (hy : IsTupH (tupleKind (mixKind prog w)) s.heap y b) : SeqAt.EqAt A s (.ref a) (.ref b) (decide (x = y)) := by
  by_cases e : a = b
  · subst e
    obtain rfl := hx.inj hy
    rw [decide_eq_true rfl]
    exact SeqAt.EqAt.same (.ref a)
  · obtain ⟨o, its, n, g, c, d, p⟩ := hx
    obtain ⟨o', its', n', g', c', d', p'⟩ := hy
    refine SeqAt.EqAt.of_refs e ?_
    have z := SeqAt.RcAt.tuples (A := A) (s := s) (e := fun j => decide (x[j]? = y[j]?)) ⟨o, g, c, n, d⟩ ⟨o', g', c', n', d'⟩ (by omega) (fun j h1 h2 => by
      obtain ⟨k, q, ek, eq, i⟩ := p.at j (by simpa using h1)
      obtain ⟨k', q', ek', eq', i'⟩ := p'.at j (by simpa using h2)
      have z1 : its[j] = Value.ref q := by rw [← eq]; simp
      have z2 : its'[j] = Value.ref q' := by rw [← eq']; simp
      rw [z1, z2, ek, ek']
      simp only [Option.some.injEq]
      exact eqAt_flat (by rw [Around.in1_units]; omega) i i')
    have l1 : its.size = x.length := by rw [p.len]; simp
    have l2 : its'.size = y.length := by rw [p'.len]; simp
    rw [l1, l2, allEq] at z
    exact z
end
def sideKind (prog : Program) (w : World) : HeapKind prog w (List (List Key)) where
  is := IsTupH (tupleKind (mixKind prog w))
  hash := tupHHash (tupleKind (mixKind prog w))
  draws := fun ks => drH (tupleKind (mixKind prog w)) ks + 1
  room := fun A => A.units + 1 < cLine
  inj := fun hx hy => hx.inj hy
  keeps := fun x ho hd hs => IsTupH.keeps x ho hd hs
  pyHash := fun {A _ _ _ _ _} hu hk h => pyHash_tupH (by omega) (show A.in1.units < cLine by rw [Around.in1_units]; omega) hk h
  eqBool := fun hu hx hy h => eqAt_deep hu hx hy _ _ _ _ h
  quiet := fun hk h => quiet_tupH (quietT _) hk h
end L2
namespace L2
open PySem PySem.Spec PyProof.Rows
inductive V where
  | non | bl (b : Bool) | int (i : Int) | str (x : Str) | byt (b : Array UInt8) | flt (b : UInt64) | ref (a : Addr) | ty (n : String)
  deriving DecidableEq
def RelV : V → Value → Prop
  | .non, u => u = Value.none
  | .bl b, u => u = Value.bool b
  | .int i, u => ∃ t, u = Value.int i t
  | .str x, u => ∃ t, u = Value.str x t
  | .byt b, u => ∃ t, u = Value.bytes b t
  | .flt b, u => ∃ t, u = Value.float b t
  | .ref a, u => u = Value.ref a
  | .ty n, u => u = Value.type n
abbrev Vals : List V → List Value → Prop := Paired RelV
theorem Vals.length {xs : List V} {us : List Value} (r : Vals xs us) : xs.length = us.length := Paired.length r
theorem Vals.get : ∀ {xs : List V} {us : List Value} {i : Nat} {x : V}, Vals xs us → xs[i]? = some x → ∃ u, us[i]? = some u ∧ RelV x u
  | _, _, _, _, .nil, e => by simp at e
  | _, _, 0, _, .cons r _, e => by simp at e; subst e; exact ⟨_, rfl, r⟩
  | _, _, i + 1, x, .cons _ t, e => by
    obtain ⟨u, h1, h2⟩ := Vals.get (i := i) (x := x) t (by simpa using e)
    exact ⟨u, by simpa using h1, h2⟩
theorem Vals.set {x : V} {u : Value} (r : RelV x u) : ∀ {xs : List V} {us : List Value} (i : Nat), Vals xs us → Vals (xs.set i x) (us.set i u)
  | _, _, _, .nil => .nil
  | _, _, 0, .cons _ t => .cons r t
  | _, _, i + 1, .cons q t => .cons q (Vals.set r i t)
theorem Vals.append : ∀ {xs ys : List V} {us ws : List Value}, Vals xs us → Vals ys ws → Vals (xs ++ ys) (us ++ ws)
  | _, _, _, _, .nil, s => s
  | _, _, _, _, .cons r t, s => .cons r (Vals.append t s)
theorem Vals.take : ∀ {xs : List V} {us : List Value} (n : Nat), Vals xs us → Vals (xs.take n) (us.take n)
  | _, _, 0, _ => .nil
  | _, _, _ + 1, .nil => .nil
  | _, _, n + 1, .cons r t => .cons r (Vals.take n t)
theorem Vals.drop : ∀ {xs : List V} {us : List Value} (n : Nat), Vals xs us → Vals (xs.drop n) (us.drop n)
  | _, _, 0, r => r
  | _, _, _ + 1, .nil => .nil
  | _, _, n + 1, .cons _ t => Vals.drop n t
theorem Vals.none_of : ∀ {xs : List V} {us : List Value} {i : Nat}, Vals xs us → xs[i]? = none → us[i]? = none := fun {xs us i} r e => by
  have h1 := r.length
  have h2 : xs.length ≤ i := List.getElem?_eq_none_iff.mp e
  exact List.getElem?_eq_none_iff.mpr (by omega)
def RelO : Option V → Option Value → Prop
  | some v, some u => RelV v u
  | none, none => True
  | _, _ => False
def KV {κ : Type} : List (κ × V) → List (κ × Value) → Prop := Paired fun (p : κ × V) (q : κ × Value) => p.1 = q.1 ∧ RelV p.2 q.2
def kV : Key → V
  | .inl i => .int i
  | .inr x => .str x
inductive HO where
  /-- a list -/
  | lst (xs : List V)
  /-- a tuple (never changes) -/
  | tup (xs : List V)
  /-- a dict whose keys are ints and texts; one whose keys are tuples of ints and texts (the empty one is both) -/
  | dK (kvs : List (Key × V)) | dT (kvs : List (List Key × V)) | dP (kvs : List (List (List Key) × V))
  /-- a set of ints: its members, its size -/
  | set (S : Int → Bool) (n : Nat)
  /-- an instance of the class at C, its dict at dx, its attributes -/
  | ins (C dx : Addr) (fs : List (Str × V))
  /-- the dict of the instance at x -/
  | own (x : Addr)
  /-- the dict of an exception -/
  | xd (fs : List (Str × V))
  /-- a bound method, f of x -/
  | met (f x : Addr)
  /-- a range object lo, lo + 1, .. below hi -/
  | rng (lo hi : Int)
  /-- a thing that is known to the object (the script; a dict while a loop walks it): read, never written while it is so -/
  | frz (o : Obj) (u : HO)
  /-- a code object's table -/
  | tbl (ps : Array Value)
  /-- any other thing, by what is true of its one object (a def of one's own: SetO a S n := HO.ext fun h => ..) -/
  | ext (φ : Heap → Prop)
abbrev Hp := Addr → Option HO
def upd (H : Hp) (a : Addr) (o : HO) : Hp := fun b => if b = a then some o else H b
theorem upd_same {H : Hp} {a : Addr} {o : HO} : upd H a o a = some o := by unfold upd; rw [if_pos rfl]
theorem upd_ne {H : Hp} {a b : Addr} {o : HO} (h : b ≠ a) : upd H a o b = H b := by unfold upd; rw [if_neg h]
theorem upd_upd {H : Hp} {a : Addr} {o u : HO} : upd (upd H a o) a u = upd H a u := by
  funext b; unfold upd; split <;> rfl
theorem ne_of {H : Hp} {a b : Addr} {o u : HO} (h : H a = some o) (h' : H b = some u) (d : o ≠ u) : a ≠ b := by
  intro e; subst e; rw [h] at h'; exact d (Option.some.inj h')
theorem ne_of_none {H : Hp} {a b : Addr} {o : HO} (h : H a = some o) (h' : H b = none) : a ≠ b := by
  intro e; subst e; rw [h] at h'; cases h'
section
variable (P : Program) (w : World)
def ObjOk (H : Hp) (h : Heap) (a : Addr) : HO → Prop
  | .lst xs => xs.length ≤ sizeLine ∧ ∃ (its : List Value) (n : Nat), Vals xs its ∧ h.get? a = some { cls := .type "list", data := .seq its.toArray n }
  | .tup xs => xs.length ≤ sizeLine ∧ ∃ its : List Value, Vals xs its ∧ IsTup h a its.toArray
  | .dK kvs => kvs.length ≤ sizeLine ∧ (a == sysModules) = false ∧ ∃ vs, KV kvs vs ∧ h.DictOf (mixKind P w) a vs
  | .dT kvs => kvs.length ≤ sizeLine ∧ (a == sysModules) = false ∧ ∃ xs : List (List Key × Addr × Value),
      Paired (fun (p : List Key × V) (q : List Key × Addr × Value) => p.1 = q.1 ∧ H q.2.1 = some (.tup (p.1.map kV)) ∧ RelV p.2 q.2.2) kvs xs ∧
      ∃ o es ep, h.get? a = some o ∧ o.ExactDict ∧ o.data = .dict es ep ∧ es.toList = xs.map (entryOfKey (tupleKind (mixKind P w))) ∧ (xs.map (·.1)).Nodup
  | .dP kvs => kvs.length ≤ sizeLine ∧ (a == sysModules) = false ∧ ∃ xs : List (List (List Key) × Addr × Value),
      Paired (fun (p : List (List Key) × V) (q : List (List Key) × Addr × Value) => p.1 = q.1 ∧ (∃ bs : List Addr, H q.2.1 = some (.tup (bs.map V.ref)) ∧ Paired (fun b k => H b = some (.tup (k.map kV))) bs p.1) ∧ RelV p.2 q.2.2) kvs xs ∧
      ∃ o es ep, h.get? a = some o ∧ o.ExactDict ∧ o.data = .dict es ep ∧ es.toList = xs.map (entryOfKey (sideKind P w)) ∧ (xs.map (·.1)).Nodup
  | .set S n => h.SetOf (intKind P w) a S n
  | .ins C dx fs => H dx = some (.own a) ∧ fs.length ≤ 1000 ∧ dx ≠ a ∧ h.get? a = some (PySem.W.instObj C dx) ∧
      ∃ mA, h.Ns1 dx mA ∧ (∀ f, RelO (fs.lookup f) (mA f)) ∧ PySem.Within mA (fs.map (·.1))
  | .own _ => ∃ o, h.get? a = some o
  | .xd fs => ∃ mA, h.Ns1 a mA ∧ ∀ f, RelO (fs.lookup f) (mA f)
  | .rng lo hi => ∃ t u v, h.get? a = some { cls := .type "range", data := .fields #[.int lo t, .int hi u, .int 1 v] }
  | .frz o u => h.get? a = some o ∧ ObjOk H h a u
  | .tbl ps => h.get? a = some { cls := .none, data := .fields ps }
  | .met f x => h.get? a = some (PySem.W.methodObj (.ref f) (.ref x))
  | .ext φ => φ h ∧ (∃ o, h.get? a = some o) ∧ ∀ h1 h2 : Heap, φ h1 → (∀ o, h1.get? a = some o → h2.get? a = some o) → φ h2
def HOk (H : Hp) (h : Heap) : Prop := ∀ a o, H a = some o → ObjOk P w H h a o
end
section
variable {P : Program} {w : World} {H H' : Hp} {h h' : Heap} {a : Addr} {o : HO}
theorem ObjOk.lt (x : ObjOk P w H h a o) : a < h.objs.size := by
  cases o with
  | lst xs => obtain ⟨_, _, _, _, e⟩ := x; exact Heap.lt_size e
  | tup xs => obtain ⟨_, _, _, p⟩ := x; exact p.lt
  | dK kvs => obtain ⟨_, _, _, _, o, _, _, e, _⟩ := x; exact Heap.lt_size e
  | dT kvs => obtain ⟨_, _, _, _, o, _, _, e, _⟩ := x; exact Heap.lt_size e
  | dP kvs => obtain ⟨_, _, _, _, o, _, _, e, _⟩ := x; exact Heap.lt_size e
  | set S n => obtain ⟨o, _, _, _, e, _⟩ := x; exact Heap.lt_size e
  | ins C dx fs => obtain ⟨_, _, _, e, _⟩ := x; exact Heap.lt_size e
  | own y => obtain ⟨_, e⟩ := x; exact Heap.lt_size e
  | xd fs => obtain ⟨_, ⟨_, _, _, e, _⟩, _⟩ := x; exact Heap.lt_size e
  | rng lo hi => obtain ⟨_, _, _, e⟩ := x; exact Heap.lt_size e
  | frz ob u => obtain ⟨e, _⟩ := x; exact Heap.lt_size e
  | tbl ps => exact Heap.lt_size (show h.get? a = some _ from x)
  | met f y => exact Heap.lt_size (show h.get? a = some _ from x)
  | ext φ => obtain ⟨_, ⟨_, e⟩, _⟩ := x; exact Heap.lt_size e
theorem Paired.mapP {α β : Type} {F G : α → β → Prop} : ∀ {l₁ : List α} {l₂ : List β}, Paired F l₁ l₂ → (∀ a b, F a b → G a b) → Paired G l₁ l₂
  | _, _, .nil, _ => .nil
  | _, _, .cons r t, f => .cons (f _ _ r) (Paired.mapP t f)
theorem ObjOk.stay (x : ObjOk P w H h a o) (k : ∀ b u, (b = a ∨ H b = some (.own a)) → h.get? b = some u → h'.get? b = some u)
    (ho : ∀ b, H b = some (.own a) → H' b = some (.own a)) (ht : ∀ b xs, H b = some (.tup xs) → H' b = some (.tup xs)) : ObjOk P w H' h' a o := by
  induction o with
  | lst xs => obtain ⟨z, its, n, r, e⟩ := x; exact ⟨z, its, n, r, k _ _ (.inl rfl) e⟩
  | tup xs => obtain ⟨z, its, r, ob, e, c⟩ := x; exact ⟨z, its, r, ob, k _ _ (.inl rfl) e, c⟩
  | dK kvs => obtain ⟨z, y, vs, r, ob, es, ep, e, c⟩ := x; exact ⟨z, y, vs, r, ob, es, ep, k _ _ (.inl rfl) e, c⟩
  | dT kvs =>
    obtain ⟨z, y, xs, r, ob, es, ep, e, c⟩ := x
    exact ⟨z, y, xs, Paired.mapP r fun p q z => ⟨z.1, ht _ _ z.2.1, z.2.2⟩, ob, es, ep, k _ _ (.inl rfl) e, c⟩
  | dP kvs =>
    obtain ⟨z, y, xs, r, ob, es, ep, e, c⟩ := x
    exact ⟨z, y, xs, Paired.mapP r fun p q ⟨z1, ⟨bs, z2, z3⟩, z4⟩ => ⟨z1, ⟨bs, ht _ _ z2, Paired.mapP z3 fun _ _ z => ht _ _ z⟩, z4⟩, ob, es, ep, k _ _ (.inl rfl) e, c⟩
  | set S n => obtain ⟨ob, es, ep, t, e, c⟩ := x; exact ⟨ob, es, ep, t, k _ _ (.inl rfl) e, c⟩
  | ins C dx fs =>
    obtain ⟨d, z, ne, e, mA, ⟨od, es, ep, e2, c⟩, r⟩ := x
    exact ⟨ho _ d, z, ne, k _ _ (.inl rfl) e, mA, ⟨od, es, ep, k _ _ (.inr d) e2, c⟩, r⟩
  | own y => obtain ⟨ob, e⟩ := x; exact ⟨ob, k _ _ (.inl rfl) e⟩
  | xd fs => obtain ⟨mA, ⟨od, es, ep, e, c⟩, r⟩ := x; exact ⟨mA, ⟨od, es, ep, k _ _ (.inl rfl) e, c⟩, r⟩
  | rng lo hi => obtain ⟨t, u, v, e⟩ := x; exact ⟨t, u, v, k _ _ (.inl rfl) e⟩
  | frz ob u ih => obtain ⟨e, q⟩ := x; exact ⟨k _ _ (.inl rfl) e, ih q⟩
  | tbl ps =>
    have e : h.get? a = some { cls := .none, data := .fields ps } := x
    show h'.get? a = some { cls := .none, data := .fields ps }
    exact k a _ (.inl rfl) e
  | met f y =>
    have e : h.get? a = some (PySem.W.methodObj (.ref f) (.ref y)) := x
    show h'.get? a = some (PySem.W.methodObj (.ref f) (.ref y))
    exact k a _ (.inl rfl) e
  | ext φ => obtain ⟨p, ⟨o, e⟩, st⟩ := x; exact ⟨st _ _ p fun o q => k _ _ (.inl rfl) q, ⟨o, k _ _ (.inl rfl) e⟩, st⟩
theorem HOk.lt (x : HOk P w H h) (e : H a = some o) : a < h.objs.size := (x a o e).lt
theorem HOk.fresh (x : HOk P w H h) (e : h.objs.size ≤ a) : H a = none := by
  cases q : H a with
  | none => rfl
  | some u => exact absurd (Nat.lt_of_lt_of_le (x.lt q) e) (Nat.lt_irrefl _)
theorem HOk.kept (x : HOk P w H h) (k : ∀ b u, h.get? b = some u → h'.get? b = some u) : HOk P w H h' := fun a o e =>
  (x a o e).stay (fun b u _ q => k b u q) (fun _ q => q) fun _ _ q => q
theorem HOk.laid (x : HOk P w H h) (k : ∀ b u, h.get? b = some u → h'.get? b = some u) (hp : h.objs.size ≤ a) (new : ObjOk P w (upd H a o) h' a o) : HOk P w (upd H a o) h' := fun b u e => by
  have hn := x.fresh hp
  by_cases hb : b = a
  · subst hb; rw [upd_same] at e; cases e; exact new
  · rw [upd_ne hb] at e
    exact (x b u e).stay (fun c v _ q => k c v q) (fun c q => by rw [upd_ne (ne_of_none q hn)]; exact q) fun c xs q => by rw [upd_ne (ne_of_none q hn)]; exact q
end
def Rd (H : Hp) (a : Addr) (u : HO) : Prop := H a = some u ∨ ∃ o, H a = some (.frz o u)
theorem Rd.of {H : Hp} {a : Addr} {u : HO} (h : H a = some u) : Rd H a u := .inl h
theorem Rd.ok {P : Program} {w : World} {H : Hp} {h : Heap} {a : Addr} {u : HO} (r : Rd H a u) (x : HOk P w H h) : ObjOk P w H h a u := by
  rcases r with r | ⟨o, r⟩
  · exact x a u r
  · obtain ⟨_, q⟩ := x a _ r
    exact q
def Mut : Option HO → Prop
  | some (.lst _) => True
  | some (.dK _) => True
  | some (.dT _) => True
  | some (.dP _) => True
  | some (.set _ _) => True
  | some (.ins _ _ _) => True
  | some (.ext _) => True
  | _ => False
section
variable {P : Program} {w : World} {H : Hp} {h h' : Heap} {x e : Addr} {o' : HO}
theorem HOk.write (ok : HOk P w H h) (mu : Mut (H x)) (he : e = x ∨ H e = some (.own x)) (k : ∀ b u, b ≠ e → h.get? b = some u → h'.get? b = some u) (heo : ∃ u, h'.get? e = some u)
    (new : ObjOk P w (upd H x o') h' x o') : HOk P w (upd H x o') h' := fun b u q => by
  have nown : ∀ c y, H c = some (.own y) → c ≠ x := fun c y r z => by subst z; rw [r] at mu; exact mu
  have ntup : ∀ c xs, H c = some (.tup xs) → c ≠ x := fun c xs r z => by subst z; rw [r] at mu; exact mu
  by_cases hb : b = x
  · subst hb; rw [upd_same] at q; cases q; exact new
  · rw [upd_ne hb] at q
    by_cases hbe : b = e
    · have q' : H b = some (.own x) := by
        rcases he with z | z
        · exact absurd (hbe.trans z) hb
        · rw [hbe]; exact z
      rw [q] at q'; cases q'
      obtain ⟨v, hv⟩ := heo
      exact ⟨v, by rw [hbe]; exact hv⟩
    · refine (ok b u q).stay (fun c v hc r => k c v ?_ r) (fun c r => by rw [upd_ne (nown c b r)]; exact r) fun c xs r => by rw [upd_ne (ntup c xs r)]; exact r
      rcases hc with rfl | hc
      · exact hbe
      · rintro rfl
        rcases he with z | z
        · exact nown c b hc z
        · rw [hc] at z; cases z; exact hb rfl
end
structure Un (fs ex : List Addr) (H H' : Hp) (h h' : Heap) : Prop where
  keep : ∀ b o, h.get? b = some o → H b = none → b ∉ fs → b ∉ ex → h'.get? b = some o
  slot : ∀ b o, h.get? b = some o → H b = none → b ∈ fs → b ∉ ex → ∃ sl, h'.get? b = some { o with slots := sl }
  free : ∀ b o, h.get? b = some o → H b = none → b ∉ ex → H' b = none
  there : ∀ b o, h.get? b = some o → b ∉ ex → ∃ o', h'.get? b = some o'
  tups : ∀ b xs, H b = some (.tup xs) → H' b = some (.tup xs)
  frzs : ∀ b o u, H b = some (.frz o u) → H' b = some (.frz o u)
  tbls : ∀ b ps, H b = some (.tbl ps) → ∃ more, H' b = some (.tbl (ps ++ more))
section
variable {fs fs' ex ex' : List Addr} {H H1 H2 : Hp} {h h1 h2 h' : Heap} {a x e : Addr} {o : HO}
theorem Un.any (u : Un fs ex H H1 h h1) {b : Addr} {ob : Obj} (q : h.get? b = some ob) (n : H b = none) (hx : b ∉ ex) : ∃ sl, h1.get? b = some { ob with slots := sl } := by
  by_cases hb : b ∈ fs
  · exact u.slot b ob q n hb hx
  · exact ⟨ob.slots, u.keep b ob q n hb hx⟩
theorem Un.trans (a : Un fs ex H H1 h h1) (b : Un fs ex H1 H2 h1 h2) : Un fs ex H H2 h h2 where
  keep := fun c ob q n hc hx => b.keep c ob (a.keep c ob q n hc hx) (a.free c ob q n hx) hc hx
  slot := fun c ob q n hc hx => by
    obtain ⟨sl, e1⟩ := a.slot c ob q n hc hx
    obtain ⟨sl', e2⟩ := b.slot c _ e1 (a.free c ob q n hx) hc hx
    exact ⟨sl', e2⟩
  free := fun c ob q n hx => by
    obtain ⟨o', e1⟩ := a.there c ob q hx
    exact b.free c o' e1 (a.free c ob q n hx) hx
  there := fun c ob q hx => by
    obtain ⟨o', e1⟩ := a.there c ob q hx
    exact b.there c o' e1 hx
  tups := fun c xs q => b.tups c xs (a.tups c xs q)
  frzs := fun c ob xs q => b.frzs c ob xs (a.frzs c ob xs q)
  tbls := fun c ps q => by
    obtain ⟨m1, e1⟩ := a.tbls c ps q
    obtain ⟨m2, e2⟩ := b.tbls c _ e1
    exact ⟨m1 ++ m2, by rw [e2, Array.append_assoc]⟩
theorem Un.kept (k : ∀ b u, h.get? b = some u → h'.get? b = some u) : Un fs ex H H h h' :=
  ⟨fun b ob q _ _ _ => k b ob q, fun b ob q _ _ _ => ⟨ob.slots, k b ob q⟩, fun _ _ _ n _ => n, fun b ob q _ => ⟨ob, k b ob q⟩, fun _ _ q => q, fun _ _ _ q => q, fun _ ps q => ⟨#[], by rw [q]; simp⟩⟩
theorem Un.refl : Un fs ex H H h h := Un.kept fun _ _ q => q
theorem Un.laid (k : ∀ b u, h.get? b = some u → h'.get? b = some u) (hp : h.objs.size ≤ a) (hn : H a = none) : Un fs ex H (upd H a o) h h' where
  keep := fun b u q _ _ _ => k b u q
  slot := fun b u q _ _ _ => ⟨u.slots, k b u q⟩
  free := fun b u q n _ => by rw [upd_ne (Nat.ne_of_lt (Nat.lt_of_lt_of_le (Heap.lt_size q) hp))]; exact n
  there := fun b u q _ => ⟨u, k b u q⟩
  tups := fun b xs q => by rw [upd_ne (ne_of_none q hn)]; exact q
  frzs := fun b u xs q => by rw [upd_ne (ne_of_none q hn)]; exact q
  tbls := fun b ps q => ⟨#[], by rw [upd_ne (ne_of_none q hn), q]; simp⟩
theorem Un.write (mu : Mut (H x)) (he : e = x ∨ H e = some (.own x)) (k : ∀ b u, b ≠ e → h.get? b = some u → h'.get? b = some u) (heo : ∃ u, h'.get? e = some u) : Un fs ex H (upd H x o) h h' := by
  have hx : ∀ b, H b = none → b ≠ x := fun b n z => by subst z; rw [n] at mu; exact mu
  have hb : ∀ b, H b = none → b ≠ e := fun b n z => by
    subst z
    rcases he with r | r
    · exact hx b n r
    · rw [n] at r; cases r
  have hm : ∀ b u, H b = some u → ¬ Mut (some u) → b ≠ x := fun b u q nm z => by subst z; rw [q] at mu; exact nm mu
  refine ⟨fun b u q n _ _ => k b u (hb b n) q, fun b u q n _ _ => ⟨u.slots, k b u (hb b n) q⟩, fun b u q n _ => by rw [upd_ne (hx b n)]; exact n, fun b u q _ => ?_,
    fun b xs q => by rw [upd_ne (hm b _ q fun z => z)]; exact q, fun b u xs q => by rw [upd_ne (hm b _ q fun z => z)]; exact q, fun b ps q => ⟨#[], by rw [upd_ne (hm b _ q fun z => z), q]; simp⟩⟩
  by_cases hbe : b = e
  · subst hbe; exact heo
  · exact ⟨u, k b u hbe q⟩
theorem Un.mono (u : Un fs ex H H1 h h1) (hs : ∀ b ∈ fs, b ∈ fs') (hx : ∀ b ∈ ex, b ∈ ex') : Un fs' ex' H H1 h h1 :=
  ⟨fun b ob q n hb he => u.keep b ob q n (fun z => hb (hs b z)) fun z => he (hx b z), fun _ _ q n _ he => u.any q n fun z => he (hx _ z), fun b ob q n he => u.free b ob q n fun z => he (hx b z), fun b ob q he => u.there b ob q fun z => he (hx b z), u.tups, u.frzs, u.tbls⟩
end
def trk (h : Heap) (H : Hp) : List Addr := (List.range h.objs.size).filter fun a => (H a).isSome
def hidT (h : Heap) (H : Hp) : Heap := PySem.W.hideAll h (trk h H)
theorem hidT_size (h : Heap) (H : Hp) : (hidT h H).objs.size = h.objs.size := PySem.W.hideAll_size _ _
theorem hidT_get {h : Heap} {H : Hp} {b : Addr} {o : Obj} (e : h.get? b = some o) (n : H b = none) : (hidT h H).get? b = some o :=
  PySem.W.hideAll_get _ e fun hm => by
    have q : (H b).isSome = true := (List.mem_filter.mp hm).2
    rw [n] at q; simp at q
theorem of_hidT {h : Heap} {H : Hp} {b : Addr} {o : Obj} (e : (hidT h H).get? b = some o) : h.get? b = some o ∧ H b = none := by
  have e' : h.get? b = some o := PySem.W.of_hideAll (trk h H) e
  refine ⟨e', ?_⟩
  cases q : H b with
  | none => rfl
  | some x =>
    have hm : b ∈ trk h H := List.mem_filter.mpr ⟨List.mem_range.mpr (Heap.lt_size e'), by simp [q]⟩
    have z : (hidT h H).get? b = none := PySem.W.hideAll_none (trk h H) hm
    rw [z] at e; cases e
def allNews (g h : Heap) (L : Addr) : List (Addr × Obj) := (List.range h.objs.size).filterMap fun a => if a = L ∨ (g.get? a).isSome = true then none else (h.get? a).map fun o => (a, o)
def rest (g h : Heap) (L d : Addr) : List (Addr × Obj) := (allNews g h L).filter fun p => decide (p.1 ≠ d)
end L2
namespace L2
open PySem PySem.Spec PyProof.Rows
structure Mod (K : PySem.W.Frag) (mg : Str → Option Value) (base : Heap) : Prop where
  kin : K.In base
  glob : base.Ns mainGlobals mg
  blt : ∃ mb, base.Ns builtinsNs mb ∧ ∀ x : Str, x ≠ "__name__" → mb x = bootBuiltins x
  nolimit : base.NoLimit
structure Cx where
  prog : Program
  w : World
  K : PySem.W.Frag
  mg : Str → Option Value
  base : Heap
  A : Around
  N : List Str
  s_0 : Shared
  H_0 : Hp
  env : Env
  outer : List Env
  stack : List Env
  ex : List Addr
  fn : Str → Bool
  calm : Bool
  pn : List (Addr × Obj)
  xe : Value → Shared → Prop
def frs (l : List Env) : List Addr := l.filterMap (·.frame)
abbrev Cx.fs (X : Cx) : List Addr := frs X.outer
def Vis (sc : Scope) (x : Str) : Prop := sc.names.lookup x = some .local ∨ sc.names.lookup x = some .cell ∨ sc.names.lookup x = some .free
def Loc (sc : Scope) (x : Str) : Prop := sc.names.lookup x = some .local ∨ sc.names.lookup x = some .cell
def Look (env : Env) (h : Heap) (m : Str → Option Value) (x : Str) (u : Value) : Prop :=
  (env.kindOf x = some .local ∧ m x = some u) ∨ ((env.kindOf x = some .cell ∨ env.kindOf x = some .free) ∧ ∃ c, env.cells.lookup x = some c ∧ h.IsCell c (some u))
structure Cx.Ok (X : Cx) : Prop where
  mod : Mod X.K X.mg X.base
  kind : X.env.scope.kind = .function
  glob : X.env.globals = mainGlobals
  blt : X.env.builtins = builtinsNs
  above : X.s_0.heap.objs.size ≤ X.env.locals
  inj : ∀ x y c, X.env.cells.lookup x = some c → X.env.cells.lookup y = some c → x = y
  has : ∀ x, (X.env.kindOf x = some .cell ∨ X.env.kindOf x = some .free) → ∃ c, X.env.cells.lookup x = some c
  cab : ∀ x c, X.fn x = true → X.env.cells.lookup x = some c → X.s_0.heap.objs.size ≤ c
  hd : X.calm = true → X.A.handled = none
  frames : X.A.frames = some X.stack
  stk : X.stack = X.outer ∨ (X.stack = X.env :: X.outer ∧ X.env.frame = some X.env.locals)
  exf : ∀ b ∈ X.ex, b ≠ X.env.locals ∧ ∀ x c, X.env.cells.lookup x = some c → c ≠ b
  bs : ∀ b o, X.base.get? b = some o → X.s_0.heap.get? b = some o ∧ X.H_0 b = none
  bsz : X.base.objs.size ≤ X.s_0.heap.objs.size
  noex : ∀ b o, X.base.get? b = some o → b ∉ X.ex
  exfs : ∀ b ∈ X.ex, b ∉ X.fs
  funs : X.s_0.heap.FunFrames X.base X.outer
  frf : ∀ b ∈ X.fs, X.H_0 b = none
structure Inv (X : Cx) (pins : List (Addr × Obj)) (σ : List (Option V)) (H : Hp) (s : Shared) : Prop where
  ok : X.Ok
  os : s.os = X.s_0.os
  bare : AllBare s.gens
  base : Un X.fs X.ex X.H_0 H X.s_0.heap s.heap
  loc : ∃ m, s.heap.Ns X.env.locals m ∧ ∀ (i : Nat) (x : Str) (v : V), X.N[i]? = some x → σ[i]? = some (some v) → Vis X.env.scope x → ∃ u, RelV v u ∧ Look X.env s.heap m x u
  cell : ∀ x c, X.env.cells.lookup x = some c → ∃ v, s.heap.IsCell c v
  free : H X.env.locals = none
  freeC : ∀ x c, X.env.cells.lookup x = some c → H c = none
  pin : ∀ p ∈ X.pn ++ pins, s.heap.get? p.1 = some p.2 ∧ H p.1 = none ∧ p.1 ≠ X.env.locals ∧ p.1 ∉ X.fs ∧ ∀ v, p.2.data ≠ .cell v
  hok : HOk X.prog X.w H s.heap
  len : σ.length = X.N.length
section
variable {X : Cx} {pins : List (Addr × Obj)} {σ : List (Option V)} {H H' : Hp} {s : Shared} {h' : Heap}
theorem Cx.Ok.nofr (ok : X.Ok) {b : Addr} {o : Obj} (e : X.base.get? b = some o) : b ∉ X.fs := fun hb => by
  have := (ok.funs.mem hb).1
  rw [e] at this; cases this
theorem Inv.bs (I : Inv X pins σ H s) : ∀ b o, X.base.get? b = some o → s.heap.get? b = some o ∧ H b = none := fun b o e =>
  ⟨I.base.keep b o (I.ok.bs b o e).1 (I.ok.bs b o e).2 (I.ok.nofr e) (I.ok.noex b o e), I.base.free b o (I.ok.bs b o e).1 (I.ok.bs b o e).2 (I.ok.noex b o e)⟩
theorem Inv.bk (I : Inv X pins σ H s) : ∀ b o, X.base.get? b = some o → s.heap.get? b = some o := fun b o e => (I.bs b o e).1
theorem Inv.mod (I : Inv X pins σ H s) : Mod X.K X.mg X.base := I.ok.mod
theorem Inv.kIn (I : Inv X pins σ H s) : X.K.In s.heap := I.ok.mod.kin.keeps I.bk
theorem Inv.nolimit (I : Inv X pins σ H s) : s.heap.NoLimit := I.ok.mod.nolimit.keeps I.bk
theorem Inv.fr (I : Inv X pins σ H s) : ∃ m, Fr X.base X.env.locals s.heap m :=
  let ⟨m, hn, _⟩ := I.loc
  ⟨m, hn, I.bk, Nat.le_trans I.ok.bsz I.ok.above⟩
theorem Inv.lt (I : Inv X pins σ H s) : X.env.locals < s.heap.objs.size := let ⟨_, hn, _⟩ := I.loc; hn.lt
theorem Inv.sz (I : Inv X pins σ H s) : X.s_0.heap.objs.size ≤ s.heap.objs.size := Nat.le_trans I.ok.above (Nat.le_of_lt I.lt)
theorem Inv.nofs (I : Inv X pins σ H s) {a : Addr} (h : s.heap.objs.size ≤ a) : a ∉ X.fs := fun hb => by
  obtain ⟨_, o, ho, _⟩ := I.ok.funs.mem hb
  exact absurd (Nat.lt_of_lt_of_le (Heap.lt_size ho) (Nat.le_trans I.sz h)) (Nat.lt_irrefl _)
theorem Inv.cne (I : Inv X pins σ H s) : ∀ x c, X.env.cells.lookup x = some c → c ≠ X.env.locals := fun x c e z => by
  obtain ⟨v, o, ho, hd⟩ := I.cell x c e
  obtain ⟨m, ⟨o', es, ep, ho', hd', _⟩, _⟩ := I.loc
  rw [z, ho'] at ho; cases ho; rw [hd'] at hd; cases hd
theorem Inv.funs (I : Inv X pins σ H s) : s.heap.FunFrames X.base X.outer := by
  have all : ∀ (l : List Env), (∀ b ∈ frs l, b ∈ X.fs) → X.s_0.heap.FunFrames X.base l → s.heap.FunFrames X.base l := by
    intro l
    induction l with
    | nil => intro _ _; trivial
    | cons env r ih =>
      intro hs hl
      obtain ⟨hk, ⟨L, o, hf, hn, ho, hd⟩, hr⟩ := hl
      have hL : L ∈ X.fs := hs L (by unfold frs; rw [List.filterMap_cons, hf]; exact List.mem_cons_self)
      obtain ⟨sl, e⟩ := I.base.slot L o ho (I.ok.frf L hL) hL fun z => I.ok.exfs L z hL
      exact ⟨hk, ⟨L, _, hf, hn, e, hd⟩, ih (fun b hb => hs b (by unfold frs; rw [List.filterMap_cons, hf]; exact List.mem_cons_of_mem _ hb)) hr⟩
  exact all X.outer (fun _ hb => hb) I.ok.funs
theorem Inv.stack (I : Inv X pins σ H s) : s.heap.FunFrames X.base X.stack := by
  rcases I.ok.stk with e | ⟨e, hf⟩
  · rw [e]; exact I.funs
  · rw [e]
    obtain ⟨m, hn, _⟩ := I.loc
    refine .cons (by rw [I.ok.kind]; decide) hf hn ?_ I.funs
    exact Heap.get?_none_of_le (Nat.le_trans I.ok.bsz I.ok.above)
theorem Inv.stkSub (I : Inv X pins σ H s) : ∀ b ∈ frs X.stack, b ∈ X.env.locals :: X.fs := fun b hb => by
  rcases I.ok.stk with e | ⟨e, hf⟩
  · rw [e] at hb; exact List.mem_cons_of_mem _ hb
  · rw [e] at hb
    unfold frs at hb
    rw [List.filterMap_cons, hf] at hb
    exact hb
theorem Inv.stkFree (I : Inv X pins σ H s) : ∀ b ∈ frs X.stack, H b = none := fun b hb => by
  rcases List.mem_cons.mp (I.stkSub b hb) with e | hb
  · rw [e]; exact I.free
  · obtain ⟨_, o, ho, _⟩ := I.ok.funs.mem hb
    exact I.base.free b o ho (I.ok.frf b hb) fun z => I.ok.exfs b z hb
theorem Inv.step {g' : Array GenState} {t' : Nat} {d' : Drawn} {ch : List Addr} (I : Inv X pins σ H s)
    (hch : ∀ b ∈ ch, (b ∈ X.ex ∨ X.s_0.heap.objs.size ≤ b) ∧ b ≠ X.env.locals ∧ (∀ x c, X.env.cells.lookup x = some c → c ≠ b) ∧ ∀ p ∈ X.pn ++ pins, p.1 ≠ b)
    (keep : ∀ b o, b ≠ X.env.locals → b ∉ X.fs → b ∉ ch → s.heap.get? b = some o → H b = none → h'.get? b = some o)
    (slot : ∀ b o, b ≠ X.env.locals → b ∈ X.fs → b ∉ ch → s.heap.get? b = some o → H b = none → ∃ sl, h'.get? b = some { o with slots := sl }) (free : ∀ b o, b ∉ ch → s.heap.get? b = some o → H b = none → H' b = none)
    (there : ∀ b o, b ∉ ch → s.heap.get? b = some o → ∃ o', h'.get? b = some o')
    (tups : ∀ b xs, H b = some (.tup xs) → H' b = some (.tup xs)) (frzs : ∀ b o u, H b = some (.frz o u) → H' b = some (.frz o u)) (tbls : ∀ b ps, H b = some (.tbl ps) → ∃ more, H' b = some (.tbl (ps ++ more)))
    (ns : ∀ m, s.heap.Ns X.env.locals m → h'.Ns X.env.locals m) (hok : HOk X.prog X.w H' h') (hg : AllBare g') :
    Inv X pins σ H' { s with heap := h', gens := g', drawn := d', toks := t' } := by
  have neL : ∀ b o, X.s_0.heap.get? b = some o → b ≠ X.env.locals := fun b o e => Nat.ne_of_lt (Nat.lt_of_lt_of_le (Heap.lt_size e) I.ok.above)
  have neC : ∀ b o, X.s_0.heap.get? b = some o → b ∉ X.ex → b ∉ ch := fun b o e hx hb => by
    rcases (hch b hb).1 with z | z
    · exact hx z
    · exact absurd (Nat.lt_of_lt_of_le (Heap.lt_size e) z) (Nat.lt_irrefl _)
  have cellK : ∀ x c, X.env.cells.lookup x = some c → ∀ v, s.heap.IsCell c v → h'.IsCell c v := fun x c e v ⟨o, ho, hd⟩ => by
    have nch : c ∉ ch := fun z => (hch c z).2.2.1 x c e rfl
    by_cases hc : c ∈ X.fs
    · obtain ⟨sl, q⟩ := slot c o (I.cne x c e) hc nch ho (I.freeC x c e)
      exact ⟨_, q, hd⟩
    · exact ⟨o, keep c o (I.cne x c e) hc nch ho (I.freeC x c e), hd⟩
  refine ⟨I.ok, I.os, hg, ⟨fun b o e n hb hx => ?_, fun b o e n hb hx => ?_, fun b o e n hx => ?_, fun b o e hx => ?_, fun b xs e => tups b xs (I.base.tups b xs e), fun b o xs e => frzs b o xs (I.base.frzs b o xs e), fun b ps e => ?_⟩, ?_, fun x c e => ?_, ?_, fun x c e => ?_, fun p hp => ?_, hok, I.len⟩
  · exact keep b o (neL b o e) hb (neC b o e hx) (I.base.keep b o e n hb hx) (I.base.free b o e n hx)
  · obtain ⟨sl, e1⟩ := I.base.slot b o e n hb hx
    obtain ⟨sl', e2⟩ := slot b _ (neL b o e) hb (neC b o e hx) e1 (I.base.free b o e n hx)
    exact ⟨sl', e2⟩
  · obtain ⟨o', e1⟩ := I.base.there b o e hx
    exact free b o' (neC b o e hx) e1 (I.base.free b o e n hx)
  · obtain ⟨o', e1⟩ := I.base.there b o e hx
    exact there b o' (neC b o e hx) e1
  · obtain ⟨m1, e1⟩ := I.base.tbls b ps e
    obtain ⟨m2, e2⟩ := tbls b _ e1
    exact ⟨m1 ++ m2, by rw [e2, Array.append_assoc]⟩
  · obtain ⟨m, hn, hl⟩ := I.loc
    refine ⟨m, ns m hn, fun i x v e1 e2 e3 => ?_⟩
    obtain ⟨u, r, l⟩ := hl i x v e1 e2 e3
    refine ⟨u, r, ?_⟩
    rcases l with l | ⟨k, c, e, z⟩
    · exact .inl l
    · exact .inr ⟨k, c, e, cellK x c e _ z⟩
  · obtain ⟨v, z⟩ := I.cell x c e
    exact ⟨v, cellK x c e v z⟩
  · obtain ⟨m, ⟨o, _, _, ho, _⟩, _⟩ := I.loc
    exact free _ o (fun z => (hch _ z).2.1 rfl) ho I.free
  · obtain ⟨v, o, ho, hd⟩ := I.cell x c e
    exact free c o (fun z => (hch c z).2.2.1 x c e rfl) ho (I.freeC x c e)
  · obtain ⟨e, n, ne, nf, d⟩ := I.pin p hp
    have nch : p.1 ∉ ch := fun z => (hch p.1 z).2.2.2 p hp rfl
    exact ⟨keep p.1 p.2 ne nf nch e n, free p.1 p.2 nch e n, ne, nf, d⟩
theorem Inv.un {t' : Nat} (I : Inv X pins σ H s) (u : Un X.fs [] H H' s.heap h') (hok : HOk X.prog X.w H' h') : Inv X pins σ H' { s with heap := h', toks := t' } := by
  obtain ⟨m, ⟨o, es, ep, ho, r⟩, _⟩ := id I.loc
  obtain ⟨sl, hL⟩ := u.any ho I.free (by simp)
  exact I.step (g' := s.gens) (d' := s.drawn) (ch := []) (fun _ z => nomatch z) (fun b o _ hb _ e n => u.keep b o e n hb (by simp)) (fun b o _ hb _ e n => u.slot b o e n hb (by simp)) (fun b o _ e n => u.free b o e n (by simp)) (fun b o _ e => u.there b o e (by simp)) u.tups u.frzs u.tbls (fun m' hm => by
    obtain ⟨o', es', ep', ho', r'⟩ := hm
    rw [ho] at ho'; cases ho'
    exact ⟨_, es', ep', hL, r'⟩) hok I.bare
theorem Inv.call {g' : Array GenState} {t' : Nat} {d' : Drawn} {ch : List Addr} (I : Inv X pins σ H s) (u : Un (frs X.stack) ch H H' s.heap h') (hok : HOk X.prog X.w H' h') (hg : AllBare g')
    (hch : ∀ b ∈ ch, (b ∈ X.ex ∨ X.s_0.heap.objs.size ≤ b) ∧ b ≠ X.env.locals ∧ (∀ x c, X.env.cells.lookup x = some c → c ≠ b) ∧ ∀ p ∈ X.pn ++ pins, p.1 ≠ b) :
    Inv X pins σ H' { s with heap := h', gens := g', drawn := d', toks := t' } := by
  obtain ⟨m, ⟨o, es, ep, ho, r⟩, _⟩ := id I.loc
  obtain ⟨sl, hL⟩ := u.any ho I.free fun z => (hch _ z).2.1 rfl
  exact I.step (ch := ch) hch (fun b o hL hb hc e n => u.keep b o e n (fun z => (List.mem_cons.mp (I.stkSub b z)).elim hL hb) hc) (fun b o _ _ hc e n => u.any e n hc) (fun b o hc e n => u.free b o e n hc) (fun b o hc e => u.there b o e hc) u.tups u.frzs u.tbls (fun m' hm => by
    obtain ⟨o', es', ep', ho', r'⟩ := hm
    rw [ho] at ho'; cases ho'
    exact ⟨_, es', ep', hL, r'⟩) hok hg
theorem Inv.turned {t' : Nat} {it : Addr} (I : Inv X pins σ H s) (k : ∀ b o, b ≠ it → s.heap.get? b = some o → h'.get? b = some o) (hn : H it = none) (hL : it ≠ X.env.locals)
    (h1 : it ∈ X.ex ∨ X.s_0.heap.objs.size ≤ it) (h2 : ∀ x c, X.env.cells.lookup x = some c → c ≠ it) (h3 : ∀ p ∈ X.pn ++ pins, p.1 ≠ it) : Inv X pins σ H { s with heap := h', toks := t' } := by
  have nit : ∀ b u, H b = some u → b ≠ it := fun b u e z => by rw [z, hn] at e; cases e
  refine I.step (g' := s.gens) (d' := s.drawn) (ch := [it]) (fun b hb => ?_) (fun b o _ _ hc e _ => k b o (fun z => hc (by simp [z])) e) (fun b o _ _ hc e _ => ⟨o.slots, k b o (fun z => hc (by simp [z])) e⟩) (fun _ _ _ _ n => n)
    (fun b o hc e => ⟨o, k b o (fun z => hc (by simp [z])) e⟩) (fun _ _ e => e) (fun _ _ _ e => e) (fun b ps e => ⟨#[], by rw [e]; simp⟩) (fun m hm => ?_) (fun b u e => ?_) I.bare
  · have e : b = it := by simpa using hb
    subst e
    exact ⟨h1, hL, h2, h3⟩
  · obtain ⟨o, es, ep, ho, r⟩ := hm
    exact ⟨o, es, ep, k _ o (Ne.symm hL) ho, r⟩
  · refine (I.hok b u e).stay (fun c v hc q => k c v ?_ q) (fun _ q => q) fun _ _ q => q
    rcases hc with z | z
    · rw [z]; exact nit b u e
    · exact nit c _ z
theorem Inv.tok (I : Inv X pins σ H s) (t : Nat) : Inv X pins σ H { s with toks := t } := I.un (h' := s.heap) (t' := t) Un.refl I.hok
theorem Inv.kept {t' : Nat} (I : Inv X pins σ H s) (k : ∀ b u, s.heap.get? b = some u → h'.get? b = some u) : Inv X pins σ H { s with heap := h', toks := t' } := I.un (Un.kept k) (I.hok.kept k)
theorem Inv.laid {a : Addr} {o : HO} {t' : Nat} (I : Inv X pins σ H s) (k : ∀ b u, s.heap.get? b = some u → h'.get? b = some u) (hp : s.heap.objs.size ≤ a) (new : ObjOk X.prog X.w (upd H a o) h' a o) :
    Inv X pins σ (upd H a o) { s with heap := h', toks := t' } := I.un (Un.laid k hp (I.hok.fresh hp)) (I.hok.laid k hp new)
theorem Inv.write {x e : Addr} {o : HO} {t' : Nat} (I : Inv X pins σ H s) (mu : Mut (H x)) (he : e = x ∨ H e = some (.own x)) (k : ∀ b u, b ≠ e → s.heap.get? b = some u → h'.get? b = some u) (heo : ∃ u, h'.get? e = some u)
    (new : ObjOk X.prog X.w (upd H x o) h' x o) : Inv X pins σ (upd H x o) { s with heap := h', toks := t' } := I.un (Un.write mu he k heo) (I.hok.write mu he k heo new)
theorem Inv.weak {σ' : List (Option V)} (I : Inv X pins σ H s) (hl : σ'.length = σ.length) (w : ∀ (i : Nat) v, σ'[i]? = some (some v) → σ[i]? = some (some v)) : Inv X pins σ' H s :=
  ⟨I.ok, I.os, I.bare, I.base, let ⟨m, hn, hl'⟩ := I.loc; ⟨m, hn, fun i x v e1 e2 e3 => hl' i x v e1 (w i v e2) e3⟩, I.cell, I.free, I.freeC, I.pin, I.hok, hl.trans I.len⟩
theorem Inv.pins_of {pins' : List (Addr × Obj)} (I : Inv X pins σ H s) (h : ∀ p ∈ pins', s.heap.get? p.1 = some p.2 ∧ H p.1 = none ∧ p.1 ≠ X.env.locals ∧ p.1 ∉ X.fs ∧ ∀ v, p.2.data ≠ .cell v) : Inv X pins' σ H s :=
  ⟨I.ok, I.os, I.bare, I.base, I.loc, I.cell, I.free, I.freeC, fun p hp => (List.mem_append.mp hp).elim (fun z => I.pin p (List.mem_append_left _ z)) (h p), I.hok, I.len⟩
theorem nodup_ix {N : List Str} (hN : N.Nodup) {i j : Nat} {x : Str} (a : N[i]? = some x) (b : N[j]? = some x) : i = j := by
  obtain ⟨h1, e1⟩ := List.getElem?_eq_some_iff.mp a
  obtain ⟨h2, e2⟩ := List.getElem?_eq_some_iff.mp b
  exact (List.getElem_inj hN).mp (e1.trans e2.symm)
theorem store_ok2 {M : Model} {A : Around} {E : Value → Shared → Prop} {i : Nat} {x : Str} {v : V} {u : Value} {Q : Unit → Shared → Prop} (I : Inv X pins σ H s) (hN : X.N.Nodup) (hi : X.N[i]? = some x) (hx : Loc X.env.scope x) (r : RelV v u)
    (h : ∀ s', Inv X pins (σ.set i (some v)) H s' → (∃ a, Heap.SameBut a s.heap s'.heap ∧ (a = X.env.locals ∨ X.env.cells.lookup x = some a)) → Q () s') (hf : X.fn x = true ∨ X.env.scope.names.lookup x = some .local := by first | exact .inl rfl | exact .inr rfl | assumption) : wpAny M A (storeName X.env x u) Q E s := by
  obtain ⟨m, hn, hl⟩ := id I.loc
  have hcls : (X.env.scope.kind == .class || (X.env.scope.kind == .module && X.env.locals != X.env.globals)) = false := by rw [I.ok.kind]; rfl
  have hiσ : i < σ.length := by rw [I.len]; exact (List.getElem?_eq_some_iff.mp hi).1
  have cne := I.cne
  have tracked : ∀ {a : Addr} {h' : Heap}, (∃ o, s.heap.get? a = some o ∧ H a = none) → Heap.SameBut a s.heap h' → HOk X.prog X.w H h' := fun {a h'} ha hs b ob e => by
    obtain ⟨_, _, hfree⟩ := ha
    refine (I.hok b ob e).stay (fun c w' hc q => (hs.2 c ?_).trans q) (fun _ q => q) fun _ _ q => q
    rintro rfl
    rcases hc with rfl | hc
    · rw [hfree] at e; cases e
    · rw [hfree] at hc; cases hc
  rcases hx with hk | hk
  · refine wpAny_storeName_local hk hn (fun h' hn' hs => ?_) hcls
    obtain ⟨oL, _, _, hoL, _⟩ := id hn
    refine h _ ⟨I.ok, I.os, I.bare, ⟨fun b o e n hb hx => ?_, fun b o e n hb hx => ?_, I.base.free, fun b o e hx => ?_, I.base.tups, I.base.frzs, I.base.tbls⟩, ⟨_, hn', fun j y v' e1 e2 e3 => ?_⟩, fun y c e => ?_, I.free, I.freeC, fun p hp => ?_, tracked ⟨oL, hoL, I.free⟩ hs, by simpa using I.len⟩ ⟨_, hs, .inl rfl⟩
    · exact (hs.2 b (Nat.ne_of_lt (Nat.lt_of_lt_of_le (Heap.lt_size e) I.ok.above))).trans (I.base.keep b o e n hb hx)
    · obtain ⟨sl, e1⟩ := I.base.slot b o e n hb hx
      exact ⟨sl, (hs.2 b (Nat.ne_of_lt (Nat.lt_of_lt_of_le (Heap.lt_size e) I.ok.above))).trans e1⟩
    · obtain ⟨o', e1⟩ := I.base.there b o e hx
      exact ⟨o', (hs.2 b (Nat.ne_of_lt (Nat.lt_of_lt_of_le (Heap.lt_size e) I.ok.above))).trans e1⟩
    · by_cases hj : j = i
      · subst hj
        rw [hi] at e1; cases e1
        rw [List.getElem?_set_self hiσ] at e2
        cases e2
        exact ⟨u, r, .inl ⟨hk, by simp⟩⟩
      · rw [List.getElem?_set_ne (Ne.symm hj)] at e2
        obtain ⟨u', r', q⟩ := hl j y v' e1 e2 e3
        refine ⟨u', r', ?_⟩
        rcases q with ⟨k, e⟩ | ⟨k, c, e, z⟩
        · refine .inl ⟨k, ?_⟩
          have : y ≠ x := fun e => hj (nodup_ix hN e1 (e ▸ hi))
          simp [this, e]
        · exact .inr ⟨k, c, e, z.sameBut hs (cne y c e)⟩
    · obtain ⟨w', z⟩ := I.cell y c e
      exact ⟨w', z.sameBut hs (cne y c e)⟩
    · obtain ⟨e, n, ne, nf, d⟩ := I.pin p hp
      exact ⟨(hs.2 p.1 ne).trans e, n, ne, nf, d⟩
  · have hfn : X.fn x = true := by
      rcases hf with z | z
      · exact z
      · rw [z] at hk; cases hk
    obtain ⟨c, hc⟩ := I.ok.has x (.inl hk)
    obtain ⟨w', z⟩ := I.cell x c hc
    refine wpAny_storeName_cell I.ok.kind hk hc z (fun h' hc' hs => ?_)
    obtain ⟨oc, hoc, hocd⟩ := id z
    refine h { s with heap := h' } ⟨I.ok, I.os, I.bare, ⟨fun b o e n hb hx => ?_, fun b o e n hb hx => ?_, I.base.free, fun b o e hx => ?_, I.base.tups, I.base.frzs, I.base.tbls⟩, ⟨m, hn.sameBut hs (Ne.symm (cne x c hc)), fun j y v' e1 e2 e3 => ?_⟩, fun y c' e => ?_, I.free, I.freeC, fun p hp => ?_, tracked ⟨oc, hoc, I.freeC x c hc⟩ hs, by simpa using I.len⟩ ⟨c, hs, .inr hc⟩
    · exact (hs.2 b (Nat.ne_of_lt (Nat.lt_of_lt_of_le (Heap.lt_size e) (I.ok.cab x c hfn hc)))).trans (I.base.keep b o e n hb hx)
    · obtain ⟨sl, e1⟩ := I.base.slot b o e n hb hx
      exact ⟨sl, (hs.2 b (Nat.ne_of_lt (Nat.lt_of_lt_of_le (Heap.lt_size e) (I.ok.cab x c hfn hc)))).trans e1⟩
    · obtain ⟨o', e1⟩ := I.base.there b o e hx
      exact ⟨o', (hs.2 b (Nat.ne_of_lt (Nat.lt_of_lt_of_le (Heap.lt_size e) (I.ok.cab x c hfn hc)))).trans e1⟩
    · by_cases hj : j = i
      · subst hj
        rw [hi] at e1; cases e1
        rw [List.getElem?_set_self hiσ] at e2
        cases e2
        exact ⟨u, r, .inr ⟨.inl hk, c, hc, hc'⟩⟩
      · rw [List.getElem?_set_ne (Ne.symm hj)] at e2
        obtain ⟨u', r', q⟩ := hl j y v' e1 e2 e3
        refine ⟨u', r', ?_⟩
        rcases q with q | ⟨k, c', e, z'⟩
        · exact .inl q
        · refine .inr ⟨k, c', e, z'.sameBut hs ?_⟩
          rintro rfl
          exact hj (nodup_ix hN e1 (I.ok.inj _ _ _ e hc ▸ hi))
    · by_cases hcc : c' = c
      · subst hcc; exact ⟨_, hc'⟩
      · obtain ⟨w2, z2⟩ := I.cell y c' e
        exact ⟨w2, z2.sameBut hs hcc⟩
    · obtain ⟨e, n, ne, nf, d⟩ := I.pin p hp
      refine ⟨(hs.2 p.1 ?_).trans e, n, ne, nf, d⟩
      intro q
      rw [q, hoc] at e
      have q' : oc = p.2 := Option.some.inj e
      exact d w' (by rw [← q']; exact hocd)
theorem store_ok {M : Model} {A : Around} {E : Value → Shared → Prop} {i : Nat} {x : Str} {v : V} {u : Value} {Q : Unit → Shared → Prop} (I : Inv X pins σ H s) (hN : X.N.Nodup) (hi : X.N[i]? = some x) (hx : Loc X.env.scope x) (r : RelV v u)
    (h : ∀ s', Inv X pins (σ.set i (some v)) H s' → Q () s') (hf : X.fn x = true ∨ X.env.scope.names.lookup x = some .local := by first | exact .inl rfl | exact .inr rfl | assumption) : wpAny M A (storeName X.env x u) Q E s :=
  store_ok2 I hN hi hx r (fun s' I' _ => h s' I') hf
theorem Inv.call' {s' : Shared} {ch : List Addr} (I : Inv X pins σ H s) (ho : s'.os = s.os) (u : Un (frs X.stack) ch H H' s.heap s'.heap) (hok : HOk X.prog X.w H' s'.heap) (hg : AllBare s'.gens)
    (hch : ∀ b ∈ ch, (b ∈ X.ex ∨ X.s_0.heap.objs.size ≤ b) ∧ b ≠ X.env.locals ∧ (∀ x c, X.env.cells.lookup x = some c → c ≠ b) ∧ ∀ p ∈ X.pn ++ pins, p.1 ≠ b) : Inv X pins σ H' s' := by
  obtain ⟨h', g', d', t', o'⟩ := s'
  have e : o' = s.os := ho
  subst e
  exact I.call (g' := g') (t' := t') (d' := d') u hok hg hch
end
abbrev XK := Value → Option Addr → Hp → Prop
abbrev St := List (Option V)
abbrev VK := V → Hp → Prop
abbrev TE := St → Hp → VK → Prop
abbrev TT := St → Hp → (Bool → Hp → Prop) → Prop
abbrev TA := St → Hp → (List V → Hp → Prop) → Prop
structure Ends where
  nx : St → Hp → Prop
  rt : VK
  bk : St → Hp → Prop := fun _ _ => False
  ct : St → Hp → Prop := fun _ _ => False
abbrev TS := Ends → St → Hp → Prop
def EP (X : Cx) (pins : List (Addr × Obj)) (σ : St) (Q : VK) (u : Value) (s' : Shared) : Prop := ∃ v H', Inv X pins σ H' s' ∧ RelV v u ∧ Q v H'
def TP (X : Cx) (pins : List (Addr × Obj)) (σ : St) (Q : Bool → Hp → Prop) (b : Bool) (s' : Shared) : Prop := ∃ H', Inv X pins σ H' s' ∧ Q b H'
def AP (X : Cx) (pins : List (Addr × Obj)) (σ : St) (Q : List V → Hp → Prop) (us : List Value) (s' : Shared) : Prop := ∃ vs H', Inv X pins σ H' s' ∧ Vals vs us ∧ Q vs H'
def SP (X : Cx) (pins : List (Addr × Obj)) (D : Ends) (f : Flow) (s' : Shared) : Prop :=
  match f with
  | .next => ∃ σ' H', Inv X pins σ' H' s' ∧ D.nx σ' H'
  | .brk => ∃ σ' H', Inv X pins σ' H' s' ∧ D.bk σ' H'
  | .cont => ∃ σ' H', Inv X pins σ' H' s' ∧ D.ct σ' H'
  | .ret u => ∃ v σ' H', Inv X pins σ' H' s' ∧ RelV v u ∧ D.rt v H'
def PE (X : Cx) (e : Expr) (t : TE) : Prop :=
  ∀ (pins : List (Addr × Obj)) (s : Shared) (σ : St) (H : Hp) (Q : VK), Inv X pins σ H s → t σ H Q → wpAny (model X.prog X.w) X.A (eval e X.env) (EP X pins σ Q) X.xe s
def PT (X : Cx) (e : Expr) (t : TT) : Prop :=
  ∀ (pins : List (Addr × Obj)) (s : Shared) (σ : St) (H : Hp) (Q : Bool → Hp → Prop), Inv X pins σ H s → t σ H Q → wpAny (model X.prog X.w) X.A (isTrue e X.env (eval e X.env)) (TP X pins σ Q) X.xe s
def PW (X : Cx) (e : Expr) (t : TT) : Prop :=
  ∀ (whole : Sem Value) (pins : List (Addr × Obj)) (s : Shared) (σ : St) (H : Hp) (Q : Bool → Hp → Prop), Inv X pins σ H s → t σ H Q → wpAny (model X.prog X.w) X.A (isTrue e X.env whole) (TP X pins σ Q) X.xe s
theorem PW.pt {X : Cx} {e : Expr} {t : TT} (h : PW X e t) : PT X e t := h _
def PA (X : Cx) (es : List Expr) (t : TA) : Prop :=
  ∀ (pos : Pos) (pins : List (Addr × Obj)) (s : Shared) (σ : St) (H : Hp) (Q : List V → Hp → Prop), Inv X pins σ H s → t σ H Q → wpAny (model X.prog X.w) X.A (spliced (backTo pos (starEach es X.env))) (AP X pins σ Q) X.xe s
def PS (X : Cx) (st : Stmt) (t : TS) : Prop :=
  ∀ (pins : List (Addr × Obj)) (s : Shared) (σ : St) (H : Hp) (D : Ends), Inv X pins σ H s → t D σ H → wpAny (model X.prog X.w) X.A (exec st X.env) (SP X pins D) X.xe s
def PSs (X : Cx) (st : List Stmt) (t : TS) : Prop :=
  ∀ (pins : List (Addr × Obj)) (s : Shared) (σ : St) (H : Hp) (D : Ends), Inv X pins σ H s → t D σ H → wpAny (model X.prog X.w) X.A (execs st X.env) (SP X pins D) X.xe s
theorem thn {α : Type} {t : Sem α} {Q Q' : α → Shared → Prop} {M : Model} {A : Around} {E : Value → Shared → Prop} {s : Shared} (h : wpAny M A t Q E s) (hQ : ∀ a s, Q a s → Q' a s) : wpAny M A t Q' E s := wpAny_mono h hQ fun _ _ x => x
end L2
namespace L2
open PySem PySem.Spec PyProof.Rows
section
variable {X : Cx}
def tVar (i : Nat) : TE := fun σ H Q => ∃ v, σ[i]? = some (some v) ∧ Q v H
def tC (v : V) : TE := fun _ H Q => Q v H
theorem pe_var {i : Nat} {x : Str} {pos : Pos} (hN : X.N[i]? = some x) (hv : Vis X.env.scope x) (hd : (x == ("__debug__" : Str)) = false := by decide) (hcd : (x == ("__classdict__" : Str)) = false := by decide) : PE X (.Name x pos) (tVar i) := by
  intro pins s σ H Q I h
  obtain ⟨v, e, h⟩ := h
  obtain ⟨m, hn, hl⟩ := I.loc
  obtain ⟨u, r, l⟩ := hl i x v hN e hv
  have fin : EP X pins σ Q u s := ⟨v, H, I, r, h⟩
  rcases l with ⟨hk, hm⟩ | ⟨hk, c, hc, hcell⟩
  · exact wpAny_Name (wpAny_loadName_local I.ok.kind hk hn hm fin) hd
  · rcases hk with hk | hk
    · exact wpAny_Name (wpAny_loadName_cell I.ok.kind hk hc hcell fin) hd
    · exact wpAny_Name (wpAny_loadName_free I.ok.kind hk hc hcell fin hcd) hd
theorem pe_int {i j pos} : PE X (.Constant (.int i) j pos) (tC (.int i)) := fun _ _ _ H _ I h => wpAny_Constant_int ⟨.int i, H, I.tok _, ⟨_, rfl⟩, h⟩
theorem pe_bl {b j pos} : PE X (.Constant (.bool b) j pos) (tC (.bl b)) := fun _ _ _ H _ I h => Constant_bool ⟨.bl b, H, I, rfl, h⟩
theorem pe_non {j pos} : PE X (.Constant .none j pos) (tC .non) := fun _ _ _ H _ I h => Constant_none ⟨.non, H, I, rfl, h⟩
theorem pe_str {x j pos} : PE X (.Constant (.str x) j pos) (tC (.str x)) := fun _ _ _ H _ I h => Calls.Constant_str ⟨.str x, H, I.tok _, ⟨_, rfl⟩, h⟩
def Gl (X : Cx) (x : Str) : Prop := X.env.kindOf x = some .globalImplicit
theorem ld_glob {E : Value → Shared → Prop} {pins : List (Addr × Obj)} {s : Shared} {σ : St} {H : Hp} {x : Str} {u : Value} {pos : Pos} {Q : Value → Shared → Prop} (I : Inv X pins σ H s) (hg : Gl X x) (hm : X.mg x = some u) (h : Q u s)
    (hd : (x == ("__debug__" : Str)) = false := by decide) : wpAny (model X.prog X.w) X.A (eval (.Name x pos) X.env) Q E s :=
  Calls.Name_function_global I.ok.kind hg (Calls.loadGlobal_global (by rw [I.ok.glob]; exact I.mod.glob.keeps I.bk) hm h) hd
theorem ld_blt {E : Value → Shared → Prop} {pins : List (Addr × Obj)} {s : Shared} {σ : St} {H : Hp} {x : Str} {u : Value} {pos : Pos} {Q : Value → Shared → Prop} (I : Inv X pins σ H s) (hg : Gl X x) (hm : X.mg x = none) (hv : bootBuiltins x = some u) (h : Q u s)
    (hn : x ≠ "__name__" := by decide) (hd : (x == ("__debug__" : Str)) = false := by decide) : wpAny (model X.prog X.w) X.A (eval (.Name x pos) X.env) Q E s := by
  obtain ⟨mb, h1, h2⟩ := I.mod.blt
  exact Calls.Name_function_global I.ok.kind hg (Calls.loadGlobal_builtin (by rw [I.ok.glob]; exact I.mod.glob.keeps I.bk) hm (by rw [I.ok.blt]; exact h1.keeps I.bk) ((h2 x hn).trans hv) h) hd
theorem pe_glob {x : Str} {v : V} {u : Value} {pos : Pos} (hg : Gl X x) (hm : X.mg x = some u) (r : RelV v u) (hd : (x == ("__debug__" : Str)) = false := by decide) : PE X (.Name x pos) (tC v) :=
  fun _ _ _ H _ I h => ld_glob I hg hm ⟨v, H, I, r, h⟩ hd
theorem pe_bltn {x : Str} {v : V} {u : Value} {pos : Pos} (hg : Gl X x) (hm : X.mg x = none) (hv : bootBuiltins x = some u) (r : RelV v u) (hn : x ≠ "__name__" := by decide) (hd : (x == ("__debug__" : Str)) = false := by decide) : PE X (.Name x pos) (tC v) :=
  fun _ _ _ H _ I h => ld_blt I hg hm hv ⟨v, H, I, r, h⟩ hn hd
variable {a b : Expr} {ta tb : TE} {pos : Pos}
variable {tA tB' : TT} {rest : List Expr}
def tAnd (t u : TT) : TT := fun σ H Q => t σ H fun c H1 => if c = true then u σ H1 Q else Q false H1
def tOr (t u : TT) : TT := fun σ H Q => t σ H fun c H1 => if c = true then Q true H1 else u σ H1 Q
def tNot (t : TT) : TT := fun σ H Q => t σ H fun c H1 => Q (!c) H1
theorem pw_and1 (ha : PT X a tA) : PW X (.BoolOp .And [a] pos) tA := by
  intro wh pins s σ H Q I h
  refine isTrue_and (thn (ha pins s σ H Q I h) fun c s1 e => ?_)
  cases c with
  | true => exact isTrue_and_nil e
  | false => exact e
theorem pw_or1 (ha : PT X a tA) : PW X (.BoolOp .Or [a] pos) tA := by
  intro wh pins s σ H Q I h
  refine isTrue_or (thn (ha pins s σ H Q I h) fun c s1 e => ?_)
  cases c with
  | false => exact isTrue_or_nil e
  | true => exact e
theorem pw_and (ha : PT X a tA) (hb : PW X (.BoolOp .And (b :: rest) pos) tB') : PW X (.BoolOp .And (a :: b :: rest) pos) (tAnd tA tB') := by
  intro wh pins s σ H Q I h
  refine isTrue_and (thn (ha pins s σ H _ I h) fun c s1 ⟨H1, I1, q1⟩ => ?_)
  cases c with
  | true => exact hb wh pins s1 σ H1 Q I1 q1
  | false => exact ⟨H1, I1, q1⟩
theorem pw_or (ha : PT X a tA) (hb : PW X (.BoolOp .Or (b :: rest) pos) tB') : PW X (.BoolOp .Or (a :: b :: rest) pos) (tOr tA tB') := by
  intro wh pins s σ H Q I h
  refine isTrue_or (thn (ha pins s σ H _ I h) fun c s1 ⟨H1, I1, q1⟩ => ?_)
  cases c with
  | true => exact ⟨H1, I1, q1⟩
  | false => exact hb wh pins s1 σ H1 Q I1 q1
theorem pt_not (ha : PT X a tA) : PT X (.UnaryOp .Not a pos) (tNot tA) := by
  intro pins s σ H Q I h
  exact isTrue_not (ha pins s σ H (fun c H1 => Q (!c) H1) I h)
def tAndV (ta tb : TE) : TE := fun σ H Q => ta σ H fun x H1 => ∃ c, x = .bl c ∧ if c = true then tb σ H1 Q else Q (.bl false) H1
def tOrV (ta tb : TE) : TE := fun σ H Q => ta σ H fun x H1 => ∃ c, x = .bl c ∧ if c = true then Q (.bl true) H1 else tb σ H1 Q
def tNotV (ta : TE) : TE := fun σ H Q => ta σ H fun x H1 => ∃ c, x = .bl c ∧ Q (.bl (!c)) H1
theorem pe_one {op} {t : TE} (h : PE X a t) : PE X (.BoolOp op [a] pos) t := fun pins s σ H Q I hw => BoolOp_one (h pins s σ H Q I hw)
theorem pe_and (ha : PE X a ta) (hb : PE X (.BoolOp .And (b :: rest) pos) tb) : PE X (.BoolOp .And (a :: b :: rest) pos) (tAndV ta tb) := by
  intro pins s σ H Q I h
  refine BoolOp_and (thn (ha pins s σ H _ I h) fun v s1 ⟨x, H1, I1, r1, q1⟩ => ?_)
  obtain ⟨c, rfl, q1⟩ := q1
  cases r1
  refine wpAny_truthy_bool ?_
  cases c with
  | true => exact hb pins s1 σ H1 Q I1 q1
  | false => exact ⟨.bl false, H1, I1, rfl, q1⟩
theorem pe_or (ha : PE X a ta) (hb : PE X (.BoolOp .Or (b :: rest) pos) tb) : PE X (.BoolOp .Or (a :: b :: rest) pos) (tOrV ta tb) := by
  intro pins s σ H Q I h
  refine BoolOp_or (thn (ha pins s σ H _ I h) fun v s1 ⟨x, H1, I1, r1, q1⟩ => ?_)
  obtain ⟨c, rfl, q1⟩ := q1
  cases r1
  refine wpAny_truthy_bool ?_
  cases c with
  | false => exact hb pins s1 σ H1 Q I1 q1
  | true => exact ⟨.bl true, H1, I1, rfl, q1⟩
theorem pe_not (ha : PE X a ta) : PE X (.UnaryOp .Not a pos) (tNotV ta) := by
  intro pins s σ H Q I h
  refine UnaryOp_ (thn (ha pins s σ H _ I h) fun v s1 ⟨x, H1, I1, r1, q1⟩ => ?_)
  obtain ⟨c, rfl, q1⟩ := q1
  cases r1
  exact not_of (wpAny_truthy_bool ⟨.bl (!c), H1, I1, rfl, q1⟩)
def tIf (t : TT) (ta tb : TE) : TE := fun σ H Q => t σ H fun c H1 => if c = true then ta σ H1 Q else tb σ H1 Q
theorem pe_ifExp {c : Expr} (hc : PT X c tA) (ha : PE X a ta) (hb : PE X b tb) : PE X (.IfExp c a b pos) (tIf tA ta tb) := by
  intro pins s σ H Q I h
  refine wpAny_IfExp (thn (hc pins s σ H _ I h) fun d s1 ⟨H1, I1, q1⟩ => ?_)
  cases d with
  | true => exact ha pins s1 σ H1 Q I1 q1
  | false => exact hb pins s1 σ H1 Q I1 q1
end
end L2
namespace L2
open PySem PySem.Spec PyProof.Rows
def SqL (K : PySem.W.Frag) (H : Hp) (a : Addr) (xs : List V) : Prop :=
  Rd H a (.lst xs) ∨
    ∃ (o : Obj) (its : Array Value) (n : Nat), K.lookup a = some o ∧ o.cls = .type "list" ∧ o.dict = none ∧ o.data = .seq its n ∧ its.size ≤ sizeLine ∧ Vals xs its.toList
def SqT (K : PySem.W.Frag) (H : Hp) (a : Addr) (xs : List V) : Prop :=
  Rd H a (.tup xs) ∨
    ∃ (o : Obj) (its : Array Value) (n : Nat), K.lookup a = some o ∧ o.cls = .type "tuple" ∧ o.data = .seq its n ∧ its.size ≤ sizeLine ∧ Vals xs its.toList
def absV : Value → Option V
  | .none => some .non
  | .bool b => some (.bl b)
  | .int i _ => some (.int i)
  | .str x _ => some (.str x)
  | .bytes b _ => some (.byt b)
  | .float b _ => some (.flt b)
  | .ref a => some (.ref a)
  | .type n => some (.ty n)
  | _ => none
theorem RelV.abs {x : V} {u : Value} (r : RelV x u) : absV u = some x := by
  cases x with
  | non => cases r; rfl
  | bl _ => cases r; rfl
  | int _ => obtain ⟨t, rfl⟩ := r; rfl
  | str _ => obtain ⟨t, rfl⟩ := r; rfl
  | byt _ => obtain ⟨t, rfl⟩ := r; rfl
  | flt _ => obtain ⟨t, rfl⟩ := r; rfl
  | ref _ => cases r; rfl
  | ty _ => cases r; rfl
theorem RelV.inj {x y : V} {u : Value} (r : RelV x u) (q : RelV y u) : x = y := Option.some.inj (r.abs.symm.trans q.abs)
theorem Vals.inj : ∀ {xs ys : List V} {us : List Value}, Vals xs us → Vals ys us → xs = ys
  | _, _, _, .nil, .nil => rfl
  | _, _, _, .cons r t, .cons r' t' => by rw [r.inj r', Vals.inj t t']
section
variable {X : Cx} {pins : List (Addr × Obj)} {σ : St} {H : Hp} {s : Shared} {a : Addr} {xs ys : List V}
theorem SqL.of {K : PySem.W.Frag} (h : H a = some (.lst xs)) : SqL K H a xs := .inl (.inl h)
theorem SqT.of {K : PySem.W.Frag} (h : H a = some (.tup xs)) : SqT K H a xs := .inl (.inl h)
theorem Inv.list (I : Inv X pins σ H s) (h : SqL X.K H a xs) : ∃ its : List Value, Vals xs its ∧ PlainL s.heap a its.toArray ∧ xs.length ≤ sizeLine := by
  rcases h with h | ⟨o, its, n, hk, hc, hd, hs, hz, r⟩
  · obtain ⟨z, its, n, r, e⟩ := h.ok I.hok
    exact ⟨its, r, ⟨_, n, e, rfl, rfl, rfl⟩, z⟩
  · refine ⟨its.toList, r, ⟨o, n, I.kIn a o hk, hc, hd, by simpa using hs⟩, ?_⟩
    have e := r.length
    simp only [Array.length_toList] at e
    omega
theorem Inv.tuple (I : Inv X pins σ H s) (h : SqT X.K H a xs) : ∃ its : List Value, Vals xs its ∧ IsTup s.heap a its.toArray ∧ xs.length ≤ sizeLine := by
  rcases h with h | ⟨o, its, n, hk, hc, hs, hz, r⟩
  · obtain ⟨z, its, r, p⟩ := h.ok I.hok
    exact ⟨its, r, p, z⟩
  · refine ⟨its.toList, r, ⟨o, I.kIn a o hk, hc, n, by simpa using hs⟩, ?_⟩
    have e := r.length
    simp only [Array.length_toList] at e
    omega
theorem Inv.list_inj (I : Inv X pins σ H s) (h : SqL X.K H a xs) (h' : SqL X.K H a ys) : xs = ys := by
  obtain ⟨its, r, ⟨o, n, e, _, _, d⟩, _⟩ := I.list h
  obtain ⟨its', r', ⟨o', n', e', _, _, d'⟩, _⟩ := I.list h'
  rw [e] at e'; cases e'
  rw [d] at d'
  injection d' with d1 _
  have : its = its' := by simpa using congrArg Array.toList d1
  subst this
  exact r.inj r'
theorem Inv.tuple_inj (I : Inv X pins σ H s) (h : SqT X.K H a xs) (h' : SqT X.K H a ys) : xs = ys := by
  obtain ⟨its, r, ⟨o, e, _, n, d⟩, _⟩ := I.tuple h
  obtain ⟨its', r', ⟨o', e', _, n', d'⟩, _⟩ := I.tuple h'
  rw [e] at e'; cases e'
  rw [d] at d'
  injection d' with d1 _
  have : its = its' := by simpa using congrArg Array.toList d1
  subst this
  exact r.inj r'
end
abbrev Cx.wish (X : Cx) (E : Value → Shared → Prop) : Cx := { X with xe := E }
abbrev Cx.nox (X : Cx) : Cx := X.wish fun _ _ => False
theorem Cx.Ok.wish {X : Cx} (ok : X.Ok) (E : Value → Shared → Prop) : (X.wish E).Ok :=
  ⟨ok.mod, ok.kind, ok.glob, ok.blt, ok.above, ok.inj, ok.has, ok.cab, ok.hd, ok.frames, ok.stk, ok.exf, ok.bs, ok.bsz, ok.noex, ok.exfs, ok.funs, ok.frf⟩
theorem Cx.Ok.unwish {X : Cx} {E : Value → Shared → Prop} (ok : (X.wish E).Ok) : X.Ok :=
  ⟨ok.mod, ok.kind, ok.glob, ok.blt, ok.above, ok.inj, ok.has, ok.cab, ok.hd, ok.frames, ok.stk, ok.exf, ok.bs, ok.bsz, ok.noex, ok.exfs, ok.funs, ok.frf⟩
section
variable {X : Cx} {pins : List (Addr × Obj)} {σ : St} {H : Hp} {s : Shared} {E : Value → Shared → Prop}
theorem Inv.wish (I : Inv X pins σ H s) (E : Value → Shared → Prop) : Inv (X.wish E) pins σ H s := ⟨I.ok.wish E, I.os, I.bare, I.base, I.loc, I.cell, I.free, I.freeC, I.pin, I.hok, I.len⟩
theorem Inv.unwish (I : Inv (X.wish E) pins σ H s) : Inv X pins σ H s := ⟨I.ok.unwish, I.os, I.bare, I.base, I.loc, I.cell, I.free, I.freeC, I.pin, I.hok, I.len⟩
theorem SP.unwish {D : Ends} {f : Flow} {s' : Shared} (h : SP (X.wish E) pins D f s') : SP X pins D f s' := by
  cases f with
  | next => obtain ⟨σ', H', I, q⟩ := h; exact ⟨σ', H', I.unwish, q⟩
  | brk => obtain ⟨σ', H', I, q⟩ := h; exact ⟨σ', H', I.unwish, q⟩
  | cont => obtain ⟨σ', H', I, q⟩ := h; exact ⟨σ', H', I.unwish, q⟩
  | ret u => obtain ⟨v, σ', H', I, r, q⟩ := h; exact ⟨v, σ', H', I.unwish, r, q⟩
theorem PE.nox {e : Expr} {t : TE} (h : PE X.nox e t) : PE X e t := fun pins s σ H Q I hw =>
  wpAny_mono (h pins s σ H Q (I.wish _) hw) (fun _ _ ⟨v, H', I', r, q⟩ => ⟨v, H', I'.unwish, r, q⟩) fun _ _ z => False.elim z
theorem PT.nox {e : Expr} {t : TT} (h : PT X.nox e t) : PT X e t := fun pins s σ H Q I hw =>
  wpAny_mono (h pins s σ H Q (I.wish _) hw) (fun _ _ ⟨H', I', q⟩ => ⟨H', I'.unwish, q⟩) fun _ _ z => False.elim z
theorem PSs.nox {st : List Stmt} {t : TS} (h : PSs X.nox st t) : PSs X st t := fun pins s σ H D I hw =>
  wpAny_mono (h pins s σ H D (I.wish _) hw) (fun _ _ q => q.unwish) fun _ _ z => False.elim z
end
section
variable {X : Cx} {st : Stmt} {rest : List Stmt} {t u : TS} {e : Expr} {te : TE} {pos : Pos}
def tNext : TS := fun D σ H => D.nx σ H
def tSeq (t u : TS) : TS := fun D σ H => t { D with nx := u D } σ H
theorem pss_nil : PSs X [] tNext := fun _ _ σ H _ I h => wpAny_execs_nil ⟨σ, H, I, h⟩
theorem pss_cons (h1 : PS X st t) (h2 : PSs X rest u) : PSs X (st :: rest) (tSeq t u) := by
  intro pins s σ H D I h
  refine wpAny_execs_cons (thn (h1 pins s σ H { D with nx := u D } I h) fun f s1 q => ?_)
  cases f with
  | next =>
    obtain ⟨σ', H', I', q⟩ := q
    exact h2 pins s1 σ' H' D I' q
  | ret v => exact q
  | brk => exact q
  | cont => exact q
def tBreak : TS := fun D σ H => D.bk σ H
def tCont : TS := fun D σ H => D.ct σ H
theorem ps_pass : PS X (.Pass pos) tNext := fun _ _ σ H _ I h => wpAny_Pass ⟨σ, H, I, h⟩
theorem ps_break : PS X (.Break pos) tBreak := fun _ _ σ H _ I h => wpAny_Break ⟨σ, H, I, h⟩
theorem ps_continue : PS X (.Continue pos) tCont := fun _ _ σ H _ I h => wpAny_Continue ⟨σ, H, I, h⟩
theorem Inv.quiet {pins : List (Addr × Obj)} {σ : St} {H : Hp} {s : Shared} (I : Inv X pins σ H s) : interactive X.env = false := by simp [interactive, I.ok.kind]
def tDrop (te : TE) : TS := fun D σ H => te σ H fun _ H1 => D.nx σ H1
theorem ps_expr (he : PE X e te) (hs : swapsWith e none pos.line X.env = pure false := by rfl) : PS X (.Expr e pos) (tDrop te) := by
  intro pins s σ H D I h
  exact wpAny_Expr_any (thn (he pins s σ H _ I h) fun v s1 ⟨x, H1, I1, r1, q1⟩ => ⟨σ, H1, I1, q1⟩) I.quiet hs
def tRet (te : TE) : TS := fun D σ H => te σ H D.rt
theorem ps_ret (he : PE X e te) : PS X (.Return (some e) pos) (tRet te) := by
  intro pins s σ H D I h
  exact wpAny_Return_some (thn (he pins s σ H _ I h) fun v s1 ⟨x, H1, I1, r1, q1⟩ => ⟨x, σ, H1, I1, r1, q1⟩)
def tRetN : TS := fun D _ H => D.rt .non H
theorem ps_retN : PS X (.Return none pos) tRetN := fun _ _ σ H _ I h => wpAny_Return_none ⟨.non, σ, H, I, rfl, h⟩
def tIfS (c : TT) (t u : TS) : TS := fun D σ H => c σ H fun b H1 => if b = true then t D σ H1 else u D σ H1
theorem ps_if {c : Expr} {a b : List Stmt} {tc : TT} (hc : PT X c tc) (ha : PSs X a t) (hb : PSs X b u) : PS X (.If c a b pos) (tIfS tc t u) := by
  intro pins s σ H D I h
  refine wpAny_If (thn (hc pins s σ H _ I h) fun d s1 ⟨H1, I1, q1⟩ => ?_)
  cases d with
  | true => exact ha pins s1 σ H1 D I1 q1
  | false => exact hb pins s1 σ H1 D I1 q1
def tNever : TS := fun _ _ _ => False
theorem ps_never : PS X st tNever := fun _ _ _ _ _ _ h => h.elim
end
abbrev TG := V → St → Hp → (St → Hp → Prop) → Prop
abbrev TGs := List V → St → Hp → (St → Hp → Prop) → Prop
def PG (X : Cx) (target : Expr) (t : TG) : Prop :=
  ∀ (pins : List (Addr × Obj)) (s : Shared) (σ : St) (H : Hp) (v : V) (u : Value) (Q : St → Hp → Prop), Inv X pins σ H s → RelV v u → t v σ H Q →
    wpAny (model X.prog X.w) X.A (assign target X.env u) (fun _ s' => ∃ σ' H', Inv X pins σ' H' s' ∧ Q σ' H') X.xe s
def PGs (X : Cx) (ts : List Expr) (t : TGs) : Prop :=
  ∀ (pins : List (Addr × Obj)) (s : Shared) (σ : St) (H : Hp) (vs : List V) (us : List Value) (Q : St → Hp → Prop), Inv X pins σ H s → Vals vs us → t vs σ H Q →
    wpAny (model X.prog X.w) X.A (assignInOrder ((assignEach ts X.env).map (·.2)) us) (fun _ s' => ∃ σ' H', Inv X pins σ' H' s' ∧ Q σ' H') X.xe s
abbrev TSet := V → V → V → Hp → (Hp → Prop) → Prop
def PSet (X : Cx) (t : TSet) : Prop :=
  ∀ (pins : List (Addr × Obj)) (s : Shared) (σ : St) (H : Hp) (o i v : V) (ov iv u : Value) (Q : Hp → Prop), Inv X pins σ H s → RelV o ov → RelV i iv → RelV v u → t o i v H Q →
    wpAny (model X.prog X.w) X.A (setItem ov iv u) (fun _ s' => ∃ H', Inv X pins σ H' s' ∧ Q H') X.xe s
abbrev TIp := V → V → Hp → VK → Prop
def PIp (X : Cx) (op : Operator) (t : TIp) : Prop :=
  ∀ (pins : List (Addr × Obj)) (s : Shared) (σ : St) (H : Hp) (x y : V) (v u : Value) (Q : VK), Inv X pins σ H s → RelV x v → RelV y u → t x y H Q →
    wpAny (model X.prog X.w) X.A (inplaceOp op v u) (EP X pins σ Q) X.xe s
section
variable {X : Cx} {pos : Pos}
def gName (i : Nat) : TG := fun v σ H Q => Q (σ.set i (some v)) H
theorem pg_name {i : Nat} {x : Str} (hN : X.N.Nodup) (hi : X.N[i]? = some x) (hx : Loc X.env.scope x) (hf : X.fn x = true ∨ X.env.scope.names.lookup x = some .local := by first | exact .inl rfl | exact .inr rfl | assumption) : PG X (.Name x pos) (gName i) := by
  intro pins s σ H v u Q I r h
  exact wpAny_assign_Name (store_ok I hN hi hx r (fun s' I' => ⟨_, H, I', h⟩) hf)
def gNil : TGs := fun vs σ H Q => vs = [] ∧ Q σ H
def gCons (t : TG) (u : TGs) : TGs := fun vs σ H Q => ∃ v r, vs = v :: r ∧ t v σ H fun σ' H' => u r σ' H' Q
theorem pgs_nil : PGs X [] gNil := by
  intro pins s σ H vs us Q I r h
  obtain ⟨e, h⟩ := h
  subst e
  cases r
  exact assignInOrder_nil ⟨σ, H, I, h⟩
theorem pgs_cons {e : Expr} {es : List Expr} {t : TG} {u : TGs} (h1 : PG X e t) (h2 : PGs X es u)
    (hs : (assignEach (e :: es) X.env).map (·.2) = assign e X.env :: (assignEach es X.env).map (·.2) := by rfl) : PGs X (e :: es) (gCons t u) := by
  intro pins s σ H vs us Q I r h
  obtain ⟨v, vr, e1, h⟩ := h
  subst e1
  cases r with
  | cons r rr =>
    rw [hs]
    refine assignInOrder_cons (thn (h1 pins s σ H _ _ _ I r h) fun _ s1 ⟨σ1, H1, I1, q1⟩ => ?_)
    exact h2 pins s1 σ1 H1 _ _ Q I1 rr q1
def gTup (K : PySem.W.Frag) (n : Nat) (t : TGs) : TG := fun v σ H Q => ∃ a xs, v = .ref a ∧ SqT K H a xs ∧ xs.length = n ∧ t xs σ H Q
theorem pg_tup {es : List Expr} {k : Nat} {t : TGs} {n : Nat} (hc : X.calm = true) (h : PGs X es t)
    (hn : (assignEach es X.env).length = n := by rfl) (hst : (assignEach es X.env).findIdx? (·.1) = none := by rfl) : PG X (.Tuple es k pos) (gTup X.K n t) := by
  intro pins s σ H v u Q I r hw
  obtain ⟨a, xs, e1, hq, hl, hw⟩ := hw
  subst e1
  cases r
  obtain ⟨its, rv, ht, hz⟩ := I.tuple hq
  refine assign_Tuple_tuple (I.ok.hd hc) ht (by simp [hn, ← hl, rv.length]) hst fun h' hx => ?_
  have I1 : Inv X pins σ H { s with heap := h' } := I.kept (t' := s.toks) fun b o e => hx b o (Nat.ne_of_lt (Heap.lt_size e)) e
  exact h pins _ σ H xs _ Q I1 (by simpa using rv) hw
def gSub (to ti : TE) (t : TSet) : TG := fun v σ H Q => to σ H fun o H1 => ti σ H1 fun i H2 => t o i v H2 fun H3 => Q σ H3
theorem pg_sub {o i : Expr} {to ti : TE} {t : TSet} (ho : PE X o to) (hi : PE X i ti) (hs : PSet X t)
    (ha : ∀ v, assign (.Subscript o i pos) X.env v = (do
      let ov ← holding [v] (eval o X.env)
      let iv ← holding [v, ov] (eval i X.env)
      standAt pos
      holding [v, ov, iv] (setItem ov iv v)
      release [v, ov, iv] []) := by intro _; rfl) : PG X (.Subscript o i pos) (gSub to ti t) := by
  intro pins s σ H v u Q I r h
  rw [ha]
  refine wpAny_bind (wpAny_holding (thn (ho pins s σ H _ I h) fun ov s1 ⟨x, H1, I1, r1, q1⟩ => ?_))
  refine wpAny_bind (wpAny_holding (thn (hi pins s1 σ H1 _ I1 q1) fun iv s2 ⟨y, H2, I2, r2, q2⟩ => ?_))
  refine wpAny_bind (wpAny_standAt (wpAny_bind (wpAny_holding (thn (hs pins s2 σ H2 x y v ov iv u _ I2 r1 r2 r q2) fun _ s3 ⟨H3, I3, q3⟩ => ?_))))
  exact wpAny_release ⟨σ, H3, I3, q3⟩
def tAsg (te : TE) (g : TG) : TS := fun D σ H => te σ H fun x H1 => g x σ H1 D.nx
theorem ps_asg {tg e : Expr} {te : TE} {g : TG} (he : PE X e te) (hg : PG X tg g) (hs : swapsWithSole [tg] e pos.line X.env = pure false := by rfl) (hw : swappedStores [tg] e X.env = pure none := by rfl)
    (h1 : (assignEach [tg] X.env).map (·.2) = [assign tg X.env] := by rfl) : PS X (.Assign [tg] e pos) (tAsg te g) := by
  intro pins s σ H D I h
  refine wpAny_Assign_stores (thn (he pins s σ H _ I h) fun v s1 ⟨x, H1, I1, r1, q1⟩ => ?_) hs hw
  rw [h1]
  exact thn (hg pins s1 σ H1 x v _ I1 r1 q1) fun _ s2 q => q
theorem ps_set {i : Nat} {x : Str} {e : Expr} {te : TE} {pos' : Pos} (hN : X.N.Nodup) (hi : X.N[i]? = some x) (hx : Loc X.env.scope x) (he : PE X e te) (hs : swapsWith e (some (.Name x pos')) pos.line X.env = pure false := by rfl) (hf : X.fn x = true ∨ X.env.scope.names.lookup x = some .local := by first | exact .inl rfl | exact .inr rfl | assumption) :
    PS X (.Assign [.Name x pos'] e pos) (tAsg te (gName i)) := by
  intro pins s σ H D I h
  refine wpAny_Assign_Name (thn (he pins s σ H _ I h) fun v s1 ⟨y, H1, I1, r1, q1⟩ => ?_) hs
  exact store_ok I1 hN hi hx r1 (fun s2 I2 => ⟨_, H1, I2, q1⟩) hf
def tPar (i j : Nat) (ta : TA) : TS := fun D σ H => ta σ H fun vs H1 => ∃ v w, vs = [v, w] ∧ D.nx ((σ.set i (some v)).set j (some w)) H1
theorem ps_par {i j : Nat} {x y : Str} {a b : Expr} {ta : TA} {px py pt : Pos} {kt k2 pt2} (hc : X.calm = true) (hN : X.N.Nodup) (hi : X.N[i]? = some x) (hj : X.N[j]? = some y) (hij : i ≠ j)
    (hx : X.env.scope.names.lookup x = some .local) (hy : X.env.scope.names.lookup y = some .local) (ha : PA X [a, b] ta)
    (hw : swappedStores [.Tuple [.Name x px, .Name y py] kt pt] (.Tuple [a, b] k2 pt2) X.env = pure (some [x, y]))
    (hs : swapsWithSole [.Tuple [.Name x px, .Name y py] kt pt] (.Tuple [a, b] k2 pt2) pos.line X.env = pure false := by rfl) :
    PS X (.Assign [.Tuple [.Name x px, .Name y py] kt pt] (.Tuple [a, b] k2 pt2) pos) (tPar i j ta) := by
  intro pins s σ H D I h
  rw [exec_Assign_arm]
  refine wpAny_bind (wpAny_standAt ?_)
  rw [hs]
  refine wpAny_bind (wpAny_pure ?_)
  rw [if_neg (by decide)]
  refine wpAny_bind (Tuple_ (thn (ha _ pins s σ H _ I h) fun us s1 ⟨vs, H1, I1, r1, q1⟩ => ?_))
  obtain ⟨v, w, e1, q1⟩ := q1
  subst e1
  obtain ⟨u1, u2, rfl, rv, rw'⟩ : ∃ u1 u2, us = [u1, u2] ∧ RelV v u1 ∧ RelV w u2 := by
    cases r1 with
    | cons p q =>
      cases q with
      | cons p' q' =>
        cases q'
        exact ⟨_, _, rfl, p, p'⟩
  refine wpAny_newObj_type ?_ (by show 2 ≤ sizeLine; decide)
  have I2 : Inv X pins σ H1 { s1 with heap := s1.heap.push { cls := .type "tuple", data := .seq [u1, u2].toArray } } := I1.kept (t' := s1.toks) fun b o e => Heap.get?_push_of_some _ e
  rw [hw]
  refine wpAny_bind (wpAny_pure ?_)
  show wpAny (model X.prog X.w) X.A (do rule "assign.swapped-stores"; let items ← unpackItems (.ref s1.heap.objs.size) 2 none; assignInOrder [fun v => bindName X.env y v, fun v => bindName X.env x v] items.reverse; pure Flow.next) _ _ _
  refine wpAny_bind (wpAny_rule (wpAny_bind (unpackItems_tuple (items := #[u1, u2]) (I.ok.hd hc) (IsTup.new s1.heap _) fun h' hx' => ?_)))
  have I3 := I2.kept (h' := h') (t' := s1.toks) fun b o e => hx' b o (Nat.ne_of_lt (Heap.lt_size e)) e
  show wpAny _ _ (assignInOrder [fun v => bindName X.env y v, fun v => bindName X.env x v] [u2, u1] >>= fun _ => pure Flow.next) _ _ _
  refine wpAny_bind (assignInOrder_cons (wpAny_bindName (store_ok I3 hN hj (.inl hy) rw' (fun s2 I4 => ?_) (.inr hy))))
  refine assignInOrder_cons (wpAny_bindName (store_ok I4 hN hi (.inl hx) rv (fun s3 I5 => assignInOrder_nil (wpAny_pure ?_)) (.inr hx)))
  rw [List.set_comm _ _ (Ne.symm hij)] at I5
  exact ⟨_, H1, I5, q1⟩
def tAug (i : Nat) (te : TE) (ti : TIp) : TS := fun D σ H => ∃ x, σ[i]? = some (some x) ∧ te σ H fun y H1 => ti x y H1 fun z H2 => D.nx (σ.set i (some z)) H2
theorem ps_aug {i : Nat} {x : Str} {e : Expr} {te : TE} {op : Operator} {ti : TIp} {pos' : Pos} (hN : X.N.Nodup) (hi : X.N[i]? = some x) (hx : Loc X.env.scope x) (he : PE X e te) (ho : PIp X op ti) (hf : X.fn x = true ∨ X.env.scope.names.lookup x = some .local := by first | exact .inl rfl | exact .inr rfl | assumption) :
    PS X (.AugAssign (.Name x pos') op e pos) (tAug i te ti) := by
  intro pins s σ H D I h
  obtain ⟨v, e1, h⟩ := h
  obtain ⟨m, hn, hl⟩ := I.loc
  have vis : Vis X.env.scope x := by rcases hx with k | k; exact .inl k; exact .inr (.inl k)
  obtain ⟨u, r, l⟩ := hl i x v hi e1 vis
  refine wpAny_AugAssign_Name ?_
  have go : wpAny (model X.prog X.w) X.A (eval e X.env) (fun w s₂ => wpAny (model X.prog X.w) X.A (inplaceOp op u w) (fun r s₃ => wpAny (model X.prog X.w) X.A (storeName X.env x r) (fun _ => SP X pins D .next) X.xe s₃) X.xe s₂) X.xe s := by
    refine thn (he pins s σ H _ I h) fun w s1 ⟨y, H1, I1, r1, q1⟩ => ?_
    refine thn (ho pins s1 σ H1 v y u w _ I1 r r1 q1) fun z s2 ⟨zv, H2, I2, r2, q2⟩ => ?_
    exact store_ok I2 hN hi hx r2 (fun s3 I3 => ⟨_, H2, I3, q2⟩) hf
  rcases l with ⟨hk, hm⟩ | ⟨hk, c, hc, hcell⟩
  · exact wpAny_loadName_local I.ok.kind hk hn hm go
  · rcases hk with hk | hk
    · exact wpAny_loadName_cell I.ok.kind hk hc hcell go
    · rcases hx with k | k
      · have : X.env.scope.names.lookup x = some .free := hk
        rw [k] at this; cases this
      · have : X.env.scope.names.lookup x = some .free := hk
        rw [k] at this; cases this
def ipI (f : Int → Int → Int) : TIp := fun x y H Q => ∃ i j, x = .int i ∧ y = .int j ∧ Q (.int (f i j)) H
theorem ip_add : PIp X .Add (ipI fun i j => i + j) := by
  intro pins s σ H x y v u Q I r1 r2 h
  obtain ⟨i, j, e1, e2, q⟩ := h
  subst e1; subst e2
  obtain ⟨t, rfl⟩ := r1
  obtain ⟨t', rfl⟩ := r2
  exact iadd_int ⟨.int _, H, I.tok _, ⟨_, rfl⟩, q⟩
theorem ip_sub : PIp X .Sub (ipI fun i j => i - j) := by
  intro pins s σ H x y v u Q I r1 r2 h
  obtain ⟨i, j, e1, e2, q⟩ := h
  subst e1; subst e2
  obtain ⟨t, rfl⟩ := r1
  obtain ⟨t', rfl⟩ := r2
  exact isub_int ⟨.int _, H, I.tok _, ⟨_, rfl⟩, q⟩
end
section
variable {X : Cx} {pos : Pos}
def tWhile (c : TT) (tb : TS) : TS := fun D σ H => ∃ W : Nat → St → Hp → Prop, (∃ m, W m σ H) ∧ ∀ m σ H, W m σ H →
  c σ H fun b H1 => if b = true then ∃ N : St → Hp → Prop, (∀ σ' H', N σ' H' → ∃ m', m' < m ∧ W m' σ' H') ∧ tb { D with nx := N, ct := N, bk := D.nx } σ H1 else D.nx σ H1
theorem ps_while {c : Expr} {body : List Stmt} {tc : TT} {tb : TS} (hp : PassesOwn (model X.prog X.w) X.A X.env X.xe) (hc : PT X c tc) (hb : PSs X body tb) : PS X (.While c body [] pos) (tWhile tc tb) := by
  intro pins s σ H D I h
  obtain ⟨W, ⟨m0, w0⟩, turn⟩ := h
  refine wpAny_While (codeAny_whileLoop (fun n s' => ∃ σ' H', Inv X pins σ' H' s' ∧ W n σ' H') ?_ m0 ⟨σ, H, I, w0⟩)
  rintro n s1 ⟨σ1, H1, I1, w1⟩
  refine wpAny_passesOwn hp (thn (hc pins s1 σ1 H1 _ I1 (turn n σ1 H1 w1)) fun b s2 ⟨H2, I2, q2⟩ => ?_)
  cases b with
  | true =>
    obtain ⟨N, hN, q2⟩ := q2
    rw [if_pos rfl]
    refine wpAny_passesOwn hp (thn (hb pins s2 σ1 H2 _ I2 q2) fun f s3 q3 => ?_)
    cases f with
    | next =>
      obtain ⟨σ3, H3, I3, n3⟩ := q3
      obtain ⟨m', hm, w3⟩ := hN σ3 H3 n3
      exact ⟨m', hm, σ3, H3, I3, w3⟩
    | cont =>
      obtain ⟨σ3, H3, I3, n3⟩ := q3
      obtain ⟨m', hm, w3⟩ := hN σ3 H3 n3
      exact ⟨m', hm, σ3, H3, I3, w3⟩
    | brk => exact q3
    | ret v => exact q3
  | false =>
    rw [if_neg Bool.false_ne_true]
    exact wpAny_execs_nil ⟨σ1, H2, I2, q2⟩
end
structure It where
  go : Nat → Hp → Prop
  yld : Nat → Hp → V → Hp → Prop
  stop : Nat → Hp → Prop
def FpOk (X : Cx) (pins : List (Addr × Obj)) (H : Hp) (b : Addr) : Prop :=
  H b = none ∧ b ≠ X.env.locals ∧ b ∉ X.fs ∧ (b ∈ X.ex ∨ X.s_0.heap.objs.size ≤ b) ∧ (∀ x c, X.env.cells.lookup x = some c → c ≠ b) ∧ ∀ p ∈ X.pn ++ pins, p.1 ≠ b
theorem Inv.fpOk {X : Cx} {pins : List (Addr × Obj)} {σ : St} {H H' : Hp} {s : Shared} {b : Addr} (I : Inv X pins σ H s) (hb : s.heap.objs.size ≤ b) (hn : H' b = none) : FpOk X pins H' b := by
  refine ⟨hn, Nat.ne_of_gt (Nat.lt_of_lt_of_le I.lt hb), I.nofs hb, .inr (Nat.le_trans I.sz hb), fun x c e z => ?_, fun p hp z => ?_⟩
  · obtain ⟨v, q⟩ := I.cell x c e
    exact absurd (Nat.lt_of_lt_of_le q.lt (by rw [z]; exact hb)) (Nat.lt_irrefl _)
  · exact absurd (Nat.lt_of_lt_of_le (Heap.lt_size (I.pin p hp).1) (by rw [z]; exact hb)) (Nat.lt_irrefl _)
structure Turn (P : Program) (w : World) (K : PySem.W.Frag) (tg : Expr) (J : It) (fp : List Addr) (it : Addr) (tn : Nat → Heap → Prop) : Prop where
  mem : it ∈ fp
  obj : ∀ i h, tn i h → ∀ b ∈ fp, ∃ o, h.get? b = some o ∧ ∀ v, o.data ≠ .cell v
  keep : ∀ i h h', tn i h → (∀ b ∈ fp, ∀ o, h.get? b = some o → h'.get? b = some o) → tn i h'
  item : ∀ (X : Cx), X.prog = P → X.w = w → X.K = K → X.calm = true → ∀ (i : Nat) (pins : List (Addr × Obj)) (s : Shared) (σ : St) (H : Hp) (E : Value → Shared → Prop), Inv X pins σ H s → (∀ b ∈ fp, FpOk X pins H b) → tn i s.heap → J.go i H →
    wpAny (model P w) X.A (pyNext (.ref it)) (fun r s1 => ∃ u, r = some u ∧
      wpAny (model P w) X.A (letOwnedTupleGo tg (.ref it) u) (fun _ s2 => ∃ x H', Inv X pins σ H' s2 ∧ RelV x u ∧ J.yld i H x H' ∧ tn (i + 1) s2.heap ∧ ∀ b ∈ fp, H' b = none) E s1) E s
  done : ∀ (X : Cx), X.prog = P → X.w = w → X.K = K → X.calm = true → ∀ (i : Nat) (pins : List (Addr × Obj)) (s : Shared) (σ : St) (H : Hp) (E : Value → Shared → Prop), Inv X pins σ H s → (∀ b ∈ fp, FpOk X pins H b) → tn i s.heap → J.stop i H →
    wpAny (model P w) X.A (pyNext (.ref it)) (fun r s1 => r = none ∧ Inv X pins σ H s1) E s
  self : ∀ (A : Around) (i : Nat) (s : Shared) (Q : Value → Shared → Prop) (E : Value → Shared → Prop), tn i s.heap → Q (.ref it) s → wpAny (model P w) A (pyIter (.ref it)) Q E s
abbrev TI := St → Hp → (It → Hp → Prop) → Prop
def PIE (X : Cx) (pins : List (Addr × Obj)) (σ : St) (tg : Expr) (R : It → Hp → Prop) (itv : Value) (s2 : Shared) : Prop :=
  ∃ (it : Addr) (fp : List Addr) (tn : Nat → Heap → Prop) (J : It) (H' : Hp), itv = .ref it ∧ Inv X pins σ H' s2 ∧ Turn X.prog X.w X.K tg J fp it tn ∧ tn 0 s2.heap ∧ (∀ b ∈ fp, FpOk X pins H' b) ∧ R J H'
def PI (X : Cx) (tg iter : Expr) (wi : TI) : Prop :=
  ∀ (pins : List (Addr × Obj)) (s : Shared) (σ : St) (H : Hp) (R : It → Hp → Prop), Inv X pins σ H s → wi σ H R →
    wpAny (model X.prog X.w) X.A (eval iter X.env) (fun v s1 => wpAny (model X.prog X.w) X.A (pyIter v) (PIE X pins σ tg R) X.xe s1) X.xe s
theorem go_of {M : Model} {A : Around} {E : Value → Shared → Prop} {s : Shared} {tg : Expr} {it : Addr} {u : Value} {o : Obj} {n : String} {vs : Array Value} {Q : Unit → Shared → Prop} (ho : s.heap.get? it = some o) (hc : o.cls = .type n) (hd : o.data = .fields vs)
    (hn : ["enumerate", "zip", "dict_itemiterator", "dict_reverseitemiterator", "odict_iterator", "itertools.zip_longest", "itertools.pairwise"].contains n = false) (hQ : Q () s) : wpAny M A (letOwnedTupleGo tg (.ref it) u) Q E s := by
  unfold letOwnedTupleGo
  cases tg <;> first
    | exact wpAny_pure hQ
    | (cases u <;> first
        | exact wpAny_pure hQ
        | (refine wpAny_bind (wpAny_load ho ?_)
           rw [hc, hd]
           show wpAny M A (if (["enumerate", "zip", "dict_itemiterator", "dict_reverseitemiterator", "odict_iterator", "itertools.zip_longest", "itertools.pairwise"].contains n && vs[0]? == some (rawInt _)) = true then _ else _) Q E s
           rw [if_neg (by intro h; rw [hn, Bool.false_and] at h; cases h)]
           exact wpAny_pure hQ))
def Itl (K : PySem.W.Frag) (a : Addr) : It :=
  ⟨fun i H => ∃ xs x, SqL K H a xs ∧ xs[i]? = some x, fun i H x H' => H' = H ∧ ∀ xs, SqL K H a xs → xs[i]? = some x, fun i H => ∃ xs, SqL K H a xs ∧ xs.length ≤ i⟩
def Itt (K : PySem.W.Frag) (a : Addr) : It :=
  ⟨fun i H => ∃ xs x, SqT K H a xs ∧ xs[i]? = some x, fun i H x H' => H' = H ∧ ∀ xs, SqT K H a xs → xs[i]? = some x, fun i H => ∃ xs, SqT K H a xs ∧ xs.length ≤ i⟩
def Itr (lo : Int) (n : Nat) : It := ⟨fun i _ => i < n, fun i H x H' => H' = H ∧ x = .int (lo + i), fun i _ => n ≤ i⟩
theorem turn_list {P : Program} {w : World} {K : PySem.W.Frag} {tg : Expr} (a it : Addr) : Turn P w K tg (Itl K a) [it] it (fun i h => h.IsListIter it a i) where
  mem := by simp
  obj := fun i h st b hb => by
    have e : b = it := by simpa using hb
    subst e
    obtain ⟨o, e, c, d⟩ := st
    exact ⟨o, e, fun v z => by rw [d] at z; cases z⟩
  keep := fun i h h' st k => st.at fun o e => k it (by simp) o e
  item := by
    intro X hP hw hK hc i pins s σ H E I hf st hg
    subst hP hw hK
    obtain ⟨xs, x, hq, hx⟩ := hg
    obtain ⟨its, rv, p, hz⟩ := I.list hq
    obtain ⟨u, hu, ru⟩ := rv.get hx
    obtain ⟨f0, f1, f2, f3, f4, f5⟩ := hf it (by simp)
    refine wpAny_pyNext_list_item st p.isList (x := u) (by simpa using hu) fun h' st' sb => ?_
    have I1 : Inv X pins σ H { s with heap := h' } := I.turned (t' := s.toks) (fun b o hb e => (sb.2 b hb).trans e) f0 f1 f3 f4 f5
    obtain ⟨o, e, c, d⟩ := id st'
    exact ⟨u, rfl, go_of (s := { s with heap := h' }) e c d (by decide) ⟨x, H, I1, ru, ⟨rfl, fun ys hy => by rw [I.list_inj hy hq]; exact hx⟩, st', fun b hb => (hf b hb).1⟩⟩
  done := by
    intro X hP hw hK hc i pins s σ H E I hf st hg
    subst hP hw hK
    obtain ⟨xs, hq, hx⟩ := hg
    obtain ⟨its, rv, p, hz⟩ := I.list hq
    obtain ⟨f0, f1, f2, f3, f4, f5⟩ := hf it (by simp)
    have hl := rv.length
    exact wpAny_pyNext_list_end (I.ok.hd hc) st p.isList (by simp; omega) fun h' eb => ⟨rfl, I.turned (t' := s.toks) (fun b o hb e => eb b o hb e) f0 f1 f3 f4 f5⟩
  self := fun _ _ _ _ _ st h => wpAny_pyIter_listiter st h
theorem turn_tuple {P : Program} {w : World} {K : PySem.W.Frag} {tg : Expr} (a it : Addr) : Turn P w K tg (Itt K a) [it] it (fun i h => h.IsTupleIter it a i) where
  mem := by simp
  obj := fun i h st b hb => by
    have e : b = it := by simpa using hb
    subst e
    obtain ⟨o, e, c, d⟩ := st
    exact ⟨o, e, fun v z => by rw [d] at z; cases z⟩
  keep := fun i h h' st k => st.at fun o e => k it (by simp) o e
  item := by
    intro X hP hw hK hc i pins s σ H E I hf st hg
    subst hP hw hK
    obtain ⟨xs, x, hq, hx⟩ := hg
    obtain ⟨its, rv, p, hz⟩ := I.tuple hq
    obtain ⟨u, hu, ru⟩ := rv.get hx
    obtain ⟨f0, f1, f2, f3, f4, f5⟩ := hf it (by simp)
    refine wpAny_pyNext_tuple_item st (show s.heap.IsTuple a its.toArray from p) (x := u) (by simpa using hu) fun h' st' sb => ?_
    have I1 : Inv X pins σ H { s with heap := h' } := I.turned (t' := s.toks) (fun b o hb e => (sb.2 b hb).trans e) f0 f1 f3 f4 f5
    obtain ⟨o, e, c, d⟩ := id st'
    exact ⟨u, rfl, go_of (s := { s with heap := h' }) e c d (by decide) ⟨x, H, I1, ru, ⟨rfl, fun ys hy => by rw [I.tuple_inj hy hq]; exact hx⟩, st', fun b hb => (hf b hb).1⟩⟩
  done := by
    intro X hP hw hK hc i pins s σ H E I hf st hg
    subst hP hw hK
    obtain ⟨xs, hq, hx⟩ := hg
    obtain ⟨its, rv, p, hz⟩ := I.tuple hq
    obtain ⟨f0, f1, f2, f3, f4, f5⟩ := hf it (by simp)
    have hl := rv.length
    exact wpAny_pyNext_tuple_end (I.ok.hd hc) st (show s.heap.IsTuple a its.toArray from p) (by simp; omega) fun h' eb => ⟨rfl, I.turned (t' := s.toks) (fun b o hb e => eb b o hb e) f0 f1 f3 f4 f5⟩
  self := fun _ _ _ _ _ st h => wpAny_pyIter_tupleiter st h
theorem turn_range {P : Program} {w : World} {K : PySem.W.Frag} {tg : Expr} (it : Addr) (lo : Int) (n : Nat) : Turn P w K tg (Itr lo n) [it] it (fun i h => IsRangeIter h it (lo + (i : Nat) * 1) ((n : Int) - (i : Nat)) 1) where
  mem := by simp
  obj := fun i h st b hb => by
    have e : b = it := by simpa using hb
    subst e
    exact ⟨_, st, fun v z => by
      have z' : Data.fields _ = Data.cell v := z
      cases z'⟩
  keep := fun i h h' st k => k it (by simp) _ st
  item := by
    intro X hP hw hK hc i pins s σ H E I hf st hg
    subst hP hw hK
    obtain ⟨f0, f1, f2, f3, f4, f5⟩ := hf it (by simp)
    have W := Walks.range (prog := X.prog) (w := X.w) (I.ok.hd hc) it lo 1 n
    refine W.item i s _ _ hg st fun v h' tk hv st' kk => ?_
    obtain ⟨t, rfl⟩ := hv
    have I1 : Inv X pins σ H { s with heap := h', toks := tk } := I.turned (fun b o hb e => kk b o (by simpa using hb) e) f0 f1 f3 f4 f5
    refine ⟨_, rfl, go_of (s := { s with heap := h', toks := tk }) (n := "range_iterator") st' rfl rfl (by decide) ⟨.int (lo + i), H, I1, ⟨t, ?_⟩, ⟨rfl, rfl⟩, st', fun b hb => (hf b hb).1⟩⟩
    rw [Int.mul_one]
  done := by
    intro X hP hw hK hc i pins s σ H E I hf st hg
    subst hP hw hK
    obtain ⟨f0, f1, f2, f3, f4, f5⟩ := hf it (by simp)
    exact wpAny_pyNext_range_end (I.ok.hd hc) st (by have : n ≤ i := hg; omega) fun h' eb => ⟨rfl, I.turned (t' := s.toks) (fun b o hb e => eb b o hb e) f0 f1 f3 f4 f5⟩
  self := fun _ _ _ _ _ st h => wpAny_pyIter_rangeiter st h
end L2
namespace L2
open PySem PySem.Spec PyProof.Rows
section
variable {X : Cx} {tg : Expr}
def iList (K : PySem.W.Frag) (tl : TE) : TI := fun σ H R => tl σ H fun x H1 => ∃ a, x = .ref a ∧ (∃ xs, SqL K H1 a xs) ∧ R (Itl K a) H1
def iTup (K : PySem.W.Frag) (tl : TE) : TI := fun σ H R => tl σ H fun x H1 => ∃ a, x = .ref a ∧ (∃ xs, SqT K H1 a xs) ∧ R (Itt K a) H1
theorem pi_list {l : Expr} {tl : TE} (hl : PE X l tl) : PI X tg l (iList X.K tl) := by
  intro pins s σ H R I h
  refine thn (hl pins s σ H _ I h) fun v s1 ⟨x, H1, I1, r1, q1⟩ => ?_
  obtain ⟨a, e, ⟨xs, hq⟩, q⟩ := q1
  subst e
  cases r1
  obtain ⟨its, rv, p, hz⟩ := I1.list hq
  refine wpAny_pyIter_list p.isList ?_
  refine ⟨s1.heap.objs.size, [s1.heap.objs.size], _, _, H1, rfl, I1.kept (t' := s1.toks) fun b o e => Heap.get?_push_of_some _ e, turn_list a _, ⟨_, Heap.get?_push_size _ rfl, rfl, rfl⟩, fun b hb => ?_, q⟩
  have e : b = s1.heap.objs.size := by simpa using hb
  subst e
  exact I1.fpOk (Nat.le_refl _) (I1.hok.fresh (Nat.le_refl _))
theorem pi_tup {l : Expr} {tl : TE} (hl : PE X l tl) : PI X tg l (iTup X.K tl) := by
  intro pins s σ H R I h
  refine thn (hl pins s σ H _ I h) fun v s1 ⟨x, H1, I1, r1, q1⟩ => ?_
  obtain ⟨a, e, ⟨xs, hq⟩, q⟩ := q1
  subst e
  cases r1
  obtain ⟨its, rv, p, hz⟩ := I1.tuple hq
  refine wpAny_pyIter_tuple (show s1.heap.IsTuple a its.toArray from p) ?_
  refine ⟨s1.heap.objs.size, [s1.heap.objs.size], _, _, H1, rfl, I1.kept (t' := s1.toks) fun b o e => Heap.get?_push_of_some _ e, turn_tuple a _, ⟨_, Heap.get?_push_size _ rfl, rfl, rfl⟩, fun b hb => ?_, q⟩
  have e : b = s1.heap.objs.size := by simpa using hb
  subst e
  exact I1.fpOk (Nat.le_refl _) (I1.hok.fresh (Nat.le_refl _))
theorem range_it {pins : List (Addr × Obj)} {σ : St} {H : Hp} {s : Shared} {R : It → Hp → Prop} {E : Value → Shared → Prop} {lo hi : Int} {t u v : Tok} {tk : Nat} (I : Inv X pins σ H s) (h1 : -(2 ^ 62) ≤ lo) (h2 : lo < 2 ^ 62) (h3 : -(2 ^ 62) ≤ hi) (h4 : hi < 2 ^ 62)
    (q : R (Itr lo (hi - lo).toNat) H) : wpAny (model X.prog X.w) X.A (pyIter (.ref s.heap.objs.size)) (PIE X pins σ tg R) E { s with heap := s.heap.push { cls := .type "range", data := .fields #[.int lo t, .int hi u, .int 1 v] }, toks := tk } := by
  refine wpAny_pyIter_range (IsRange.new ..) (small_one h1 h2 h3 h4) ?_
  have I1 : Inv X pins σ H { s with heap := s.heap.push { cls := .type "range", data := .fields #[.int lo t, .int hi u, .int 1 v] }, toks := tk } := I.kept fun b o e => Heap.get?_push_of_some _ e
  refine ⟨(s.heap.push { cls := .type "range", data := .fields #[.int lo t, .int hi u, .int 1 v] }).objs.size, [(s.heap.push { cls := .type "range", data := .fields #[.int lo t, .int hi u, .int 1 v] }).objs.size], _, _, H, rfl,
    I1.kept (t' := tk) fun b o e => Heap.get?_push_of_some _ e, turn_range _ lo (hi - lo).toNat, ?_, fun b hb => ?_, q⟩
  · have e1 : lo + ((0 : Nat) : Int) * 1 = lo := by simp
    have e2 : (((hi - lo).toNat : Nat) : Int) - ((0 : Nat) : Int) = Builtin.Range.rangeSize lo hi 1 := by rw [rangeSize_one]; split <;> omega
    show IsRangeIter _ _ (lo + ((0 : Nat) : Int) * 1) ((((hi - lo).toNat : Nat) : Int) - ((0 : Nat) : Int)) 1
    rw [e1, e2]
    exact Heap.get?_push_size _ rfl
  · have e : b = (s.heap.push { cls := .type "range", data := .fields #[.int lo t, .int hi u, .int 1 v] }).objs.size := by simpa using hb
    subst e
    exact I1.fpOk (Nat.le_refl _) (I1.hok.fresh (Nat.le_refl _))
def iRng1 (ta : TA) : TI := fun σ H R => ta σ H fun vs H1 => ∃ j : Int, vs = [.int j] ∧ -(2 ^ 62) ≤ j ∧ j < 2 ^ 62 ∧ R (Itr 0 j.toNat) H1
def iRng2 (ta : TA) : TI := fun σ H R => ta σ H fun vs H1 => ∃ i j : Int, vs = [.int i, .int j] ∧ (-(2 ^ 62) ≤ i ∧ i < 2 ^ 62 ∧ -(2 ^ 62) ≤ j ∧ j < 2 ^ 62) ∧ R (Itr i (j - i).toNat) H1
theorem pi_range1 {a : Expr} {ta : TA} {p pos : Pos} (hg : Gl X "range") (hm : X.mg "range" = none) (ha : PA X [a] ta) (hs : starEach [a] X.env = [(false, eval a X.env)] := by rfl) : PI X tg (.Call (.Name "range" p) [a] [] pos) (iRng1 ta) := by
  intro pins s σ H R I h
  refine Call_ (ld_blt I hg hm boot_range (PyProof.Rows.callWith_type1 (thn (ha pos pins s σ H _ I h) fun us s1 ⟨vs, H1, I1, r1, q1⟩ => ?_) hs rfl))
  obtain ⟨j, e, q1, q2, q⟩ := q1
  subst e
  cases r1 with
  | cons r rr =>
    cases rr
    obtain ⟨t, rfl⟩ := r
    exact call_range_1 (range_it I1 (by omega) (by omega) q1 q2 (by simpa using q))
theorem pi_range2 {a b : Expr} {ta : TA} {p pos : Pos} (hg : Gl X "range") (hm : X.mg "range" = none) (ha : PA X [a, b] ta) (hs : starEach [a, b] X.env = [(false, eval a X.env), (false, eval b X.env)] := by rfl) (hs2 : starEach [b] X.env = [(false, eval b X.env)] := by rfl) :
    PI X tg (.Call (.Name "range" p) [a, b] [] pos) (iRng2 ta) := by
  intro pins s σ H R I h
  refine Call_ (ld_blt I hg hm boot_range (PyProof.Rows.callWith_type1 (thn (ha pos pins s σ H _ I h) fun us s1 ⟨vs, H1, I1, r1, q1⟩ => ?_) (by rw [hs, hs2]) (by rw [hs2]; rfl)))
  obtain ⟨i, j, e, ⟨q1, q2, q3, q4⟩, q⟩ := q1
  subst e
  cases r1 with
  | cons r rr =>
    cases rr with
    | cons r' rr =>
      cases rr
      obtain ⟨t, rfl⟩ := r
      obtain ⟨t', rfl⟩ := r'
      exact call_range_2 (range_it I1 q1 q2 q3 q4 q)
def tFor (wi : TI) (g : TG) (tb : TS) : TS := fun D σ H => wi σ H fun J H1 => ∃ W : Nat → Nat → St → Hp → Prop, (∃ m, W 0 m σ H1) ∧ ∀ i m σ H, W i m σ H →
  (J.stop i H ∧ D.nx σ H) ∨ (J.go i H ∧ ∃ N : St → Hp → Prop, (∀ σ' H', N σ' H' → ∃ m', m' < m ∧ W (i + 1) m' σ' H') ∧ ∀ x H', J.yld i H x H' → g x σ H' fun σ2 H2 => tb { D with nx := N, ct := N, bk := D.nx } σ2 H2)
def pinsAt (fp : List Addr) (h : Heap) : List (Addr × Obj) := fp.filterMap fun b => (h.get? b).map fun o => (b, o)
theorem mem_pinsAt {fp : List Addr} {h : Heap} {b : Addr} {o : Obj} (hb : b ∈ fp) (e : h.get? b = some o) : (b, o) ∈ pinsAt fp h := List.mem_filterMap.mpr ⟨b, hb, by rw [e]; rfl⟩
theorem of_pinsAt {fp : List Addr} {h : Heap} {p : Addr × Obj} (hp : p ∈ pinsAt fp h) : p.1 ∈ fp ∧ h.get? p.1 = some p.2 := by
  obtain ⟨b, hb, e⟩ := List.mem_filterMap.mp hp
  cases q : h.get? b with
  | none => rw [q] at e; cases e
  | some o =>
    rw [q] at e
    have e' : (b, o) = p := Option.some.inj e
    subst e'
    exact ⟨hb, q⟩
theorem Inv.pinned {pins : List (Addr × Obj)} {σ : St} {H : Hp} {s : Shared} {fp : List Addr} (I : Inv X pins σ H s) (hf : ∀ b ∈ fp, FpOk X pins H b) (ho : ∀ b ∈ fp, ∃ o, s.heap.get? b = some o ∧ ∀ v, o.data ≠ .cell v) : Inv X (pins ++ pinsAt fp s.heap) σ H s :=
  I.pins_of fun p hp => (List.mem_append.mp hp).elim (fun z => I.pin p (List.mem_append_right _ z)) fun z => by
    obtain ⟨hb, e⟩ := of_pinsAt z
    obtain ⟨f0, f1, f2, _⟩ := hf p.1 hb
    obtain ⟨o, e', d⟩ := ho p.1 hb
    rw [e] at e'; cases e'
    exact ⟨e, f0, f1, f2, d⟩
theorem Inv.unpinned {pins pl : List (Addr × Obj)} {σ : St} {H : Hp} {s : Shared} (I : Inv X (pins ++ pl) σ H s) : Inv X pins σ H s := I.pins_of fun p hp => I.pin p (List.mem_append_right _ (List.mem_append_left _ hp))
theorem ps_for {iter : Expr} {body : List Stmt} {wi : TI} {g : TG} {tb : TS} {pos : Pos} (hp : PassesOwn (model X.prog X.w) X.A X.env X.xe) (hc : X.calm = true) (hi : PI X tg iter wi) (hg : PG X tg g) (hb : PSs X body tb)
    (hs : ∀ x, foldedSetIterable iter X.env x = pure x := by intro _; rfl) : PS X (.For tg iter body [] pos) (tFor wi g tb) := by
  intro pins s σ H D I h
  refine wpAny_For (thn (hi pins s σ H _ I h) fun v s1 h1 => thn h1 fun itv s2 h2 => ?_) hs
  obtain ⟨it, fp, tn, J, H2, e, I2, T, st2, f2, W, ⟨m0, w0⟩, turn⟩ := h2
  subst e
  -- what stays true of the iterator's objects through the loop
  have stat : ∀ {H' : Hp}, (∀ b ∈ fp, H' b = none) → ∀ b ∈ fp, FpOk X pins H' b := fun hn b hb => ⟨hn b hb, (f2 b hb).2⟩
  refine codeAny_forLoop_any (fun n s' => ∃ i σ' H', Inv X pins σ' H' s' ∧ tn i s'.heap ∧ (∀ b ∈ fp, H' b = none) ∧ W i n σ' H') ?_ m0 ⟨0, σ, H2, I2, st2, fun b hb => (f2 b hb).1, w0⟩
  rintro n s3 ⟨i, σ3, H3, I3, st3, fr3, w3⟩
  rcases turn i n σ3 H3 w3 with ⟨stop, qn⟩ | ⟨go, N, hN, step⟩
  · refine wpAny_passesOwn hp (thn (T.done X rfl rfl rfl hc i pins s3 σ3 H3 X.xe I3 (stat fr3) st3 stop) fun r s4 ⟨hr, I4⟩ => ?_)
    subst hr
    exact wpAny_execs_nil ⟨σ3, H3, I4, qn⟩
  · refine wpAny_passesOwn hp (thn (T.item X rfl rfl rfl hc i pins s3 σ3 H3 X.xe I3 (stat fr3) st3 go) fun r s4 ⟨u, hr, h4⟩ => ?_)
    subst hr
    refine wpAny_passesOwn hp (thn h4 fun _ s5 ⟨x, H5, I5, r5, y5, st5, fr5⟩ => ?_)
    have I5' := I5.pinned (stat fr5) (T.obj _ _ st5)
    refine wpAny_passesOwn hp (thn (hg _ s5 σ3 H5 x u _ I5' r5 (step x H5 y5)) fun _ s6 ⟨σ6, H6, I6, q6⟩ => ?_)
    refine wpAny_passesOwn hp (thn (hb _ s6 σ6 H6 _ I6 q6) fun f s7 q7 => ?_)
    have again : ∀ {σ7 : St} {H7 : Hp}, Inv X (pins ++ pinsAt fp s5.heap) σ7 H7 s7 → N σ7 H7 → ∃ m, m < n ∧ ∃ i σ' H', Inv X pins σ' H' s7 ∧ tn i s7.heap ∧ (∀ b ∈ fp, H' b = none) ∧ W i m σ' H' := fun {σ7 H7} I7 n7 => by
      obtain ⟨m', hm, w7⟩ := hN σ7 H7 n7
      refine ⟨m', hm, i + 1, σ7, H7, I7.unpinned, T.keep _ _ _ st5 fun b hb o e => (I7.pin (b, o) (List.mem_append_right _ (List.mem_append_right _ (mem_pinsAt hb e)))).1, fun b hb => ?_, w7⟩
      obtain ⟨o, e, d⟩ := T.obj _ _ st5 b hb
      exact (I7.pin (b, o) (List.mem_append_right _ (List.mem_append_right _ (mem_pinsAt hb e)))).2.1
    cases f with
    | next => obtain ⟨σ7, H7, I7, n7⟩ := q7; exact again I7 n7
    | cont => obtain ⟨σ7, H7, I7, n7⟩ := q7; exact again I7 n7
    | brk => obtain ⟨σ7, H7, I7, q7⟩ := q7; exact ⟨σ7, H7, I7.unpinned, q7⟩
    | ret v => obtain ⟨x7, σ7, H7, I7, r7, q7⟩ := q7; exact ⟨x7, σ7, H7, I7.unpinned, r7, q7⟩
end
theorem for_list {K : PySem.W.Frag} {a : Addr} {xs : List V} {g : TG} {tb : TS} {D : Ends} {σ : St} {H : Hp} (Pv : Nat → St → Hp → Prop) (h0 : Pv 0 σ H) (hl : ∀ i σ H, i ≤ xs.length → Pv i σ H → SqL K H a xs)
    (hs : ∀ i x σ H, xs[i]? = some x → Pv i σ H → g x σ H fun σ2 H2 => tb { D with nx := Pv (i + 1), ct := Pv (i + 1), bk := D.nx } σ2 H2) (hd : ∀ σ H, Pv xs.length σ H → D.nx σ H) :
    ∃ W : Nat → Nat → St → Hp → Prop, (∃ m, W 0 m σ H) ∧ ∀ i m σ H, W i m σ H →
      ((Itl K a).stop i H ∧ D.nx σ H) ∨ ((Itl K a).go i H ∧ ∃ N : St → Hp → Prop, (∀ σ' H', N σ' H' → ∃ m', m' < m ∧ W (i + 1) m' σ' H') ∧ ∀ x H', (Itl K a).yld i H x H' → g x σ H' fun σ2 H2 => tb { D with nx := N, ct := N, bk := D.nx } σ2 H2) := by
  refine ⟨fun i m σ H => m = xs.length - i ∧ i ≤ xs.length ∧ Pv i σ H, ⟨xs.length, by simp, Nat.zero_le _, h0⟩, ?_⟩
  rintro i m σ H ⟨rfl, hi, p⟩
  have q := hl i σ H hi p
  by_cases hlt : i < xs.length
  · refine .inr ⟨⟨xs, xs[i], q, by simp [hlt]⟩, Pv (i + 1), fun σ' H' p' => ⟨xs.length - (i + 1), by omega, rfl, hlt, p'⟩, fun x H' y => ?_⟩
    obtain ⟨e, y⟩ := y
    subst e
    exact hs i x σ _ (y xs q) p
  · have e : i = xs.length := by omega
    subst e
    exact .inl ⟨⟨xs, q, Nat.le_refl _⟩, hd σ H p⟩
theorem for_range {lo : Int} {n : Nat} {g : TG} {tb : TS} {D : Ends} {σ : St} {H : Hp} (Pv : Nat → St → Hp → Prop) (h0 : Pv 0 σ H)
    (hs : ∀ i σ H, i < n → Pv i σ H → g (.int (lo + i)) σ H fun σ2 H2 => tb { D with nx := Pv (i + 1), ct := Pv (i + 1), bk := D.nx } σ2 H2) (hd : ∀ σ H, Pv n σ H → D.nx σ H) :
    ∃ W : Nat → Nat → St → Hp → Prop, (∃ m, W 0 m σ H) ∧ ∀ i m σ H, W i m σ H →
      ((Itr lo n).stop i H ∧ D.nx σ H) ∨ ((Itr lo n).go i H ∧ ∃ N : St → Hp → Prop, (∀ σ' H', N σ' H' → ∃ m', m' < m ∧ W (i + 1) m' σ' H') ∧ ∀ x H', (Itr lo n).yld i H x H' → g x σ H' fun σ2 H2 => tb { D with nx := N, ct := N, bk := D.nx } σ2 H2) := by
  refine ⟨fun i m σ H => m = n - i ∧ i ≤ n ∧ Pv i σ H, ⟨n, by simp, Nat.zero_le _, h0⟩, ?_⟩
  rintro i m σ H ⟨rfl, hi, p⟩
  by_cases hlt : i < n
  · refine .inr ⟨hlt, Pv (i + 1), fun σ' H' p' => ⟨n - (i + 1), by omega, rfl, hlt, p'⟩, fun x H' y => ?_⟩
    obtain ⟨e, y⟩ := y
    subst e y
    exact hs i σ _ hlt p
  · have e : i = n := by omega
    subst e
    exact .inl ⟨Nat.le_refl _, hd σ H p⟩
end L2
namespace L2
open PySem PySem.Spec PyProof.Rows
abbrev R2 := V → V → Hp → VK → Prop
def OpR (X : Cx) (f : Value → Value → Sem Value) (r : R2) : Prop :=
  ∀ (pins : List (Addr × Obj)) (s : Shared) (σ : St) (H : Hp) (x y : V) (v u : Value) (Q : VK), Inv X pins σ H s → RelV x v → RelV y u → r x y H Q →
    wpAny (model X.prog X.w) X.A (f v u) (EP X pins σ Q) X.xe s
def UnR (X : Cx) (f : Value → Sem Value) (r : V → Hp → VK → Prop) : Prop :=
  ∀ (pins : List (Addr × Obj)) (s : Shared) (σ : St) (H : Hp) (x : V) (v : Value) (Q : VK), Inv X pins σ H s → RelV x v → r x H Q →
    wpAny (model X.prog X.w) X.A (f v) (EP X pins σ Q) X.xe s
def CallR (X : Cx) (f : Value) (r : List V → Hp → VK → Prop) : Prop :=
  ∀ (pins : List (Addr × Obj)) (s : Shared) (σ : St) (H : Hp) (xs : List V) (us : List Value) (Q : VK), Inv X pins σ H s → Vals xs us → r xs H Q →
    wpAny (model X.prog X.w) X.A (call f us) (EP X pins σ Q) X.xe s
def TruR (X : Cx) (r : V → Hp → (Bool → Hp → Prop) → Prop) : Prop :=
  ∀ (pins : List (Addr × Obj)) (s : Shared) (σ : St) (H : Hp) (x : V) (v : Value) (Q : Bool → Hp → Prop), Inv X pins σ H s → RelV x v → r x H Q →
    wpAny (model X.prog X.w) X.A (truthy v) (TP X pins σ Q) X.xe s
def tOp (r : R2) (ta tb : TE) : TE := fun σ H Q => ta σ H fun x H1 => tb σ H1 fun y H2 => r x y H2 Q
def tUn (r : V → Hp → VK → Prop) (ta : TE) : TE := fun σ H Q => ta σ H fun x H1 => r x H1 Q
def rI (C : Int → Int → Prop) (g : Int → Int → V) : R2 := fun x y H Q => ∃ i j, x = .int i ∧ y = .int j ∧ C i j ∧ Q (g i j) H
def rI0 (g : Int → Int → V) : R2 := fun x y H Q => ∃ i j, x = .int i ∧ y = .int j ∧ Q (g i j) H
def rU (g : Int → V) : V → Hp → VK → Prop := fun x H Q => ∃ i, x = .int i ∧ Q (g i) H
section
variable {X : Cx} {a b c : Expr} {ta tb tc : TE} {pos : Pos}
theorem binT (ha : PE X a ta) (hb : PE X b tb) {pins : List (Addr × Obj)} {s : Shared} {σ : St} {H : Hp} {R : V → V → Hp → Prop} (I : Inv X pins σ H s)
    (h : ta σ H fun x H1 => tb σ H1 fun y H2 => R x y H2) {Q : Value → Shared → Prop} {f : Value → Value → Sem Value}
    (hf : ∀ v u s2 x y H2, Inv X pins σ H2 s2 → RelV x v → RelV y u → R x y H2 → wpAny (model X.prog X.w) X.A (f v u) Q X.xe s2) :
    wpAny (model X.prog X.w) X.A (eval a X.env) (fun v s₁ => wpAny (model X.prog X.w) X.A (eval b X.env) (fun u s₂ => wpAny (model X.prog X.w) X.A (f v u) Q X.xe s₂) X.xe s₁) X.xe s := by
  refine thn (ha pins s σ H _ I h) fun v s1 ⟨x, H1, I1, r1, q1⟩ => ?_
  refine thn (hb pins s1 σ H1 _ I1 q1) fun u s2 ⟨y, H2, I2, r2, q2⟩ => ?_
  exact hf v u s2 x y H2 I2 r1 r2 q2
theorem pe_op {op : Operator} {r : R2} (ho : OpR X (binaryOp op) r) (ha : PE X a ta) (hb : PE X b tb) : PE X (.BinOp a op b pos) (tOp r ta tb) := by
  intro pins s σ H Q I h
  exact wpAny_BinOp (binT ha hb I h fun v u s2 x y H2 I2 rx ry q => ho pins s2 σ H2 x y v u Q I2 rx ry q)
theorem pe_un {op : UnaryOp} {r : V → Hp → VK → Prop} (ho : UnR X (unaryOp op) r) (ha : PE X a ta) : PE X (.UnaryOp op a pos) (tUn r ta) := by
  intro pins s σ H Q I h
  exact UnaryOp_ (thn (ha pins s σ H _ I h) fun v s1 ⟨x, H1, I1, r1, q1⟩ => ho pins s1 σ H1 x v Q I1 r1 q1)
theorem opI {f : Value → Value → Sem Value} {C : Int → Int → Prop} {g : Int → Int → Int}
    (rule : ∀ (i j : Int) (t u : Tok) (s : Shared) (Q : Value → Shared → Prop) (E : Value → Shared → Prop), C i j → Q (.int (g i j) s.toks) { s with toks := s.toks + 1 } → wpAny (model X.prog X.w) X.A (f (.int i t) (.int j u)) Q E s) :
    OpR X f (rI C fun i j => .int (g i j)) := by
  intro pins s σ H x y v u Q I rx ry h
  obtain ⟨i, j, rfl, rfl, hc, q⟩ := h
  obtain ⟨t, rfl⟩ := rx
  obtain ⟨t', rfl⟩ := ry
  exact rule i j t t' s _ _ hc ⟨.int (g i j), H, I.tok _, ⟨_, rfl⟩, q⟩
theorem opI0 {f : Value → Value → Sem Value} {g : Int → Int → Int}
    (rule : ∀ (i j : Int) (t u : Tok) (s : Shared) (Q : Value → Shared → Prop) (E : Value → Shared → Prop), Q (.int (g i j) s.toks) { s with toks := s.toks + 1 } → wpAny (model X.prog X.w) X.A (f (.int i t) (.int j u)) Q E s) :
    OpR X f (rI0 fun i j => .int (g i j)) := by
  intro pins s σ H x y v u Q I rx ry h
  obtain ⟨i, j, rfl, rfl, q⟩ := h
  obtain ⟨t, rfl⟩ := rx
  obtain ⟨t', rfl⟩ := ry
  exact rule i j t t' s _ _ ⟨.int (g i j), H, I.tok _, ⟨_, rfl⟩, q⟩
theorem opB0 {f : Value → Value → Sem Value} {g : Int → Int → Bool}
    (rule : ∀ (i j : Int) (t u : Tok) (s : Shared) (Q : Value → Shared → Prop) (E : Value → Shared → Prop), Q (.bool (g i j)) s → wpAny (model X.prog X.w) X.A (f (.int i t) (.int j u)) Q E s) :
    OpR X f (rI0 fun i j => .bl (g i j)) := by
  intro pins s σ H x y v u Q I rx ry h
  obtain ⟨i, j, rfl, rfl, q⟩ := h
  obtain ⟨t, rfl⟩ := rx
  obtain ⟨t', rfl⟩ := ry
  exact rule i j t t' s _ _ ⟨.bl (g i j), H, I, rfl, q⟩
def CDiv (i j : Int) : Prop := 0 < j ∧ j < 1073741824
def CPow (i j : Int) : Prop := 0 ≤ j ∧ j ≤ 1000000 ∧ i.natAbs < 2 ^ 64
def CMul (i j : Int) : Prop := (-(2 ^ 64) < i ∧ i < 2 ^ 64) ∨ (-(2 ^ 64) < j ∧ j < 2 ^ 64)
theorem CMul.ok {i j : Int} (h : CMul i j) : IntMulOk i j := by
  rcases h with ⟨h1, h2⟩ | ⟨h1, h2⟩
  · exact .of_left (intBits_le_64 h1 h2)
  · exact .of_right (intBits_le_64 h1 h2)
theorem two_pow_nn (k : Nat) : (0 : Int) ≤ 2 ^ k := by
  rw [two_pow_cast]
  exact Int.natCast_nonneg _
theorem op_add : OpR X (binaryOp .Add) (rI0 fun i j => .int (i + j)) := opI0 fun _ _ _ _ _ _ _ q => add_int q
theorem op_sub : OpR X (binaryOp .Sub) (rI0 fun i j => .int (i - j)) := opI0 fun _ _ _ _ _ _ _ q => sub_int q
theorem op_fdiv : OpR X (binaryOp .FloorDiv) (rI CDiv fun i j => .int (i / j)) := opI fun i j _ _ _ _ _ hc q => by
  have h1 : (0 : Int) < j := hc.1
  have h2 : j < 1073741824 := hc.2
  exact floordiv_int (by omega) (by rw [Int.fdiv_eq_ediv_of_nonneg i (by omega)]; exact q) (.inl (PyProof.noPylong_small (by omega)))
theorem op_mod : OpR X (binaryOp .Mod) (rI (fun _ j => 0 < j) fun i j => .int (i % j)) := opI fun i j _ _ _ _ _ hc q => by
  have h1 : (0 : Int) < j := hc
  exact mod_int' (by omega) (by rw [Int.fmod_eq_emod_of_nonneg i (by omega)]; exact q)
theorem op_pow : OpR X (binaryOp .Pow) (rI CPow fun i j => .int (i ^ j.toNat)) := opI fun _ _ _ _ _ _ _ hc q => pow_int_small hc.1 hc.2.1 hc.2.2 q
theorem op_shl : OpR X (binaryOp .LShift) (rI CPow fun i j => .int (i * 2 ^ j.toNat)) := opI fun _ _ _ _ _ _ _ hc q => lshift_int_small hc.1 hc.2.1 hc.2.2 q
theorem op_shr : OpR X (binaryOp .RShift) (rI (fun _ j => 0 ≤ j) fun i j => .int (i / 2 ^ j.toNat)) := opI fun i j _ _ _ _ _ hc q =>
  rshift_int hc (by rw [Int.fdiv_eq_ediv_of_nonneg i (two_pow_nn _)]; exact q)
theorem unI {f : Value → Sem Value} {g : Int → Int}
    (rule : ∀ (i : Int) (t : Tok) (s : Shared) (Q : Value → Shared → Prop) (E : Value → Shared → Prop), Q (.int (g i) s.toks) { s with toks := s.toks + 1 } → wpAny (model X.prog X.w) X.A (f (.int i t)) Q E s) :
    UnR X f (rU fun i => .int (g i)) := by
  intro pins s σ H x v Q I rx h
  obtain ⟨i, rfl, q⟩ := h
  obtain ⟨t, rfl⟩ := rx
  exact rule i t s _ _ ⟨.int (g i), H, I.tok _, ⟨_, rfl⟩, q⟩
theorem un_neg : UnR X (unaryOp .USub) (rU fun i => .int (-i)) := unI fun _ _ _ _ _ q => neg_int q
end
def scal : V → V → Bool
  | .non, .non => true | .non, .int _ => true | .int _, .non => true | .non, .bl _ => true | .bl _, .non => true | .non, .str _ => true | .str _, .non => true
  | .int _, .int _ => true | .bl _, .bl _ => true | .str _, .str _ => true | .byt _, .byt _ => true
  | .int _, .str _ => true | .str _, .int _ => true | .bl _, .str _ => true | .str _, .bl _ => true
  | _, _ => false
def rEq : R2 := fun x y H Q => scal x y = true ∧ Q (.bl (decide (x = y))) H
def rNe : R2 := fun x y H Q => scal x y = true ∧ Q (.bl (!decide (x = y))) H
theorem dec_int {i j : Int} : decide (V.int i = V.int j) = (i == j) := by
  rw [Bool.eq_iff_iff]
  simp
theorem dec_bl {i j : Bool} : decide (V.bl i = V.bl j) = (i == j) := by
  rw [Bool.eq_iff_iff]
  simp
theorem dec_str {i j : Str} : decide (V.str i = V.str j) = (i == j) := by
  rw [Bool.eq_iff_iff]
  simp
theorem dec_byt {i j : Array UInt8} : decide (V.byt i = V.byt j) = (i.toList == j.toList) := by
  rw [Bool.eq_iff_iff]
  cases i
  cases j
  simp
section
variable {X : Cx} {a b c : Expr} {ta tb tc : TE} {pos : Pos}
theorem fin_bl {pins : List (Addr × Obj)} {σ : St} {H : Hp} {s : Shared} {Q : VK} {k k' : Bool} (I : Inv X pins σ H s) (q : Q (.bl k) H) (e : k = k') : EP X pins σ Q (.bool k') s := by
  subst e
  exact ⟨.bl k, H, I, rfl, q⟩
theorem op_eq : OpR X (compareOp .Eq) rEq := by
  intro pins s σ H x y v u Q I rx ry h
  obtain ⟨hs, q⟩ := h
  cases x with
  | non =>
    cases rx
    cases y with
    | non => cases ry; exact PySem.EqNone.eq_none_none (fin_bl I q (by simp))
    | bl j => cases ry; exact PySem.EqNone.eq_none_bool (fin_bl I q (by simp))
    | int j => obtain ⟨t', rfl⟩ := ry; exact PySem.EqNone.eq_none_int (fin_bl I q (by simp))
    | str j => obtain ⟨t', rfl⟩ := ry; exact PySem.EqNone.eq_none_str (fin_bl I q (by simp))
    | _ => exact absurd (show false = true from hs) Bool.false_ne_true
  | bl i =>
    cases rx
    cases y with
    | non => cases ry; exact PySem.EqNone.eq_bool_none (fin_bl I q (by simp))
    | bl j => cases ry; exact eq_bool (fin_bl I q dec_bl)
    | str j => obtain ⟨t', rfl⟩ := ry; exact PySem.EqMixed.eq_bool_str (fin_bl I q (by simp))
    | _ => exact absurd (show false = true from hs) Bool.false_ne_true
  | int i =>
    obtain ⟨t, rfl⟩ := rx
    cases y with
    | non => cases ry; exact PySem.EqNone.eq_int_none (fin_bl I q (by simp))
    | int j => obtain ⟨t', rfl⟩ := ry; exact eq_int (fin_bl I q dec_int)
    | str j => obtain ⟨t', rfl⟩ := ry; exact PySem.EqMixed.eq_int_str (fin_bl I q (by simp))
    | _ => exact absurd (show false = true from hs) Bool.false_ne_true
  | str i =>
    obtain ⟨t, rfl⟩ := rx
    cases y with
    | non => cases ry; exact PySem.EqNone.eq_str_none (fin_bl I q (by simp))
    | bl j => cases ry; exact PySem.EqMixed.eq_str_bool (fin_bl I q (by simp))
    | int j => obtain ⟨t', rfl⟩ := ry; exact PySem.EqMixed.eq_str_int (fin_bl I q (by simp))
    | str j => obtain ⟨t', rfl⟩ := ry; exact eq_str (fin_bl I q dec_str)
    | _ => exact absurd (show false = true from hs) Bool.false_ne_true
  | byt i =>
    obtain ⟨t, rfl⟩ := rx
    cases y with
    | byt j => obtain ⟨t', rfl⟩ := ry; exact PySem.W.eq_bytes (fin_bl I q dec_byt)
    | _ => exact absurd (show false = true from hs) Bool.false_ne_true
  | _ => cases y <;> exact absurd (show false = true from hs) Bool.false_ne_true
theorem op_ne : OpR X (compareOp .NotEq) rNe := by
  intro pins s σ H x y v u Q I rx ry h
  obtain ⟨hs, q⟩ := h
  cases x with
  | non =>
    cases rx
    cases y with
    | non => cases ry; exact PySem.EqNone.ne_none_none (fin_bl I q (by simp))
    | bl j => cases ry; exact PySem.EqNone.ne_none_bool (fin_bl I q (by simp))
    | int j => obtain ⟨t', rfl⟩ := ry; exact PySem.EqNone.ne_none_int (fin_bl I q (by simp))
    | str j => obtain ⟨t', rfl⟩ := ry; exact PySem.EqNone.ne_none_str (fin_bl I q (by simp))
    | _ => exact absurd (show false = true from hs) Bool.false_ne_true
  | bl i =>
    cases rx
    cases y with
    | non => cases ry; exact PySem.EqNone.ne_bool_none (fin_bl I q (by simp))
    | bl j => cases ry; exact ne_bool (fin_bl I q (congrArg not dec_bl))
    | str j => obtain ⟨t', rfl⟩ := ry; exact PySem.EqMixed.ne_bool_str (fin_bl I q (by simp))
    | _ => exact absurd (show false = true from hs) Bool.false_ne_true
  | int i =>
    obtain ⟨t, rfl⟩ := rx
    cases y with
    | non => cases ry; exact PySem.EqNone.ne_int_none (fin_bl I q (by simp))
    | int j => obtain ⟨t', rfl⟩ := ry; exact ne_int (fin_bl I q (congrArg not dec_int))
    | str j => obtain ⟨t', rfl⟩ := ry; exact PySem.EqMixed.ne_int_str (fin_bl I q (by simp))
    | _ => exact absurd (show false = true from hs) Bool.false_ne_true
  | str i =>
    obtain ⟨t, rfl⟩ := rx
    cases y with
    | non => cases ry; exact PySem.EqNone.ne_str_none (fin_bl I q (by simp))
    | bl j => cases ry; exact PySem.EqMixed.ne_str_bool (fin_bl I q (by simp))
    | int j => obtain ⟨t', rfl⟩ := ry; exact PySem.EqMixed.ne_str_int (fin_bl I q (by simp))
    | str j => obtain ⟨t', rfl⟩ := ry; exact ne_str (fin_bl I q (congrArg not dec_str))
    | _ => exact absurd (show false = true from hs) Bool.false_ne_true
  | byt i =>
    obtain ⟨t, rfl⟩ := rx
    cases y with
    | byt j => obtain ⟨t', rfl⟩ := ry; exact PySem.W.ne_bytes (fin_bl I q (congrArg not dec_byt))
    | _ => exact absurd (show false = true from hs) Bool.false_ne_true
  | _ => cases y <;> exact absurd (show false = true from hs) Bool.false_ne_true
theorem op_lt : OpR X (compareOp .Lt) (rI0 fun i j => .bl (decide (i < j))) := opB0 fun _ _ _ _ _ _ _ q => lt_int q
theorem op_le : OpR X (compareOp .LtE) (rI0 fun i j => .bl (decide (i ≤ j))) := opB0 fun _ _ _ _ _ _ _ q => le_int q
theorem op_gt : OpR X (compareOp .Gt) (rI0 fun i j => .bl (decide (j < i))) := opB0 fun _ _ _ _ _ _ _ q => gt_int q
theorem op_ge : OpR X (compareOp .GtE) (rI0 fun i j => .bl (decide (j ≤ i))) := opB0 fun _ _ _ _ _ _ _ q => ge_int q
theorem op_isN : OpR X (compareOp .Is) (fun x y H Q => y = .non ∧ Q (.bl (decide (x = .non))) H) := by
  intro pins s σ H x y v u Q I rx ry h
  obtain ⟨rfl, q⟩ := h
  cases ry
  refine is_none_gen (fin_bl I q ?_)
  cases x <;> first
    | (cases rx; rfl)
    | (obtain ⟨t, rfl⟩ := rx; rfl)
theorem op_notN : OpR X (compareOp .IsNot) (fun x y H Q => y = .non ∧ Q (.bl (!decide (x = .non))) H) := by
  intro pins s σ H x y v u Q I rx ry h
  obtain ⟨rfl, q⟩ := h
  cases ry
  refine isnot_none_gen (fin_bl I q ?_)
  cases x <;> first
    | (cases rx; rfl)
    | (obtain ⟨t, rfl⟩ := rx; rfl)
theorem OpR.or {f : Value → Value → Sem Value} {r r' : R2} (h : OpR X f r) (h' : OpR X f r') : OpR X f (fun x y H Q => r x y H Q ∨ r' x y H Q) := by
  intro pins s σ H x y v u Q I rx ry q
  rcases q with q | q
  · exact h pins s σ H x y v u Q I rx ry q
  · exact h' pins s σ H x y v u Q I rx ry q
theorem pe_cmpR {op : CmpOp} {r : R2} (ho : OpR X (compareOp op) r) (ha : PE X a ta) (hb : PE X b tb) (hm : behindInMarks op b = false) : PE X (.Compare a [op] [b] pos) (tOp r ta tb) := by
  intro pins s σ H Q I h
  exact wpAny_Compare1 (binT ha hb I h fun v u s2 x y H2 I2 rx ry q => ho pins s2 σ H2 x y v u Q I2 rx ry q) hm
def tTest (t : TE) : TT := fun σ H Q => t σ H fun x H' => ∃ k, x = .bl k ∧ Q k H'
theorem pt_cmpR {op : CmpOp} {r : R2} (ho : OpR X (compareOp op) r) (ha : PE X a ta) (hb : PE X b tb) (hm : behindInMarks op b = false) : PT X (.Compare a [op] [b] pos) (tTest (tOp r ta tb)) := by
  intro pins s σ H Q I h
  refine wpAny_isTrue_Compare1 (thn (ha pins s σ H _ I h) fun v s1 ⟨x, H1, I1, r1, q1⟩ => thn (hb pins s1 σ H1 _ I1 q1) fun u s2 ⟨y, H2, I2, r2, q2⟩ =>
    thn (ho pins s2 σ H2 x y v u _ I2 r1 r2 q2) fun c s3 ⟨z, H3, I3, r3, k, e, q3⟩ => ?_) hm
  subst e
  cases r3
  exact wpAny_truthy_bool ⟨H3, I3, q3⟩
def tChain (r r' : R2) (ta tb tc : TE) : TE := fun σ H Q => ta σ H fun x H1 => tb σ H1 fun y H2 => r x y H2 fun z H3 => ∃ k, z = .bl k ∧
  (if k = true then tc σ H3 fun w' H4 => r' y w' H4 Q else Q (.bl false) H3)
theorem pe_chain {op op' : CmpOp} {r r' : R2} (ho : OpR X (compareOp op) r) (ho' : OpR X (compareOp op') r') (ha : PE X a ta) (hb : PE X b tb) (hc : PE X c tc)
    (hm : lastMarks [op, op'] [b, c] = false := by with_unfolding_all rfl) : PE X (.Compare a [op, op'] [b, c] pos) (tChain r r' ta tb tc) := by
  intro pins s σ H Q I h
  refine Compare_chain (thn (ha pins s σ H _ I h) fun v s1 ⟨x, H1, I1, r1, q1⟩ => chain_link (thn (hb pins s1 σ H1 _ I1 q1) fun u s2 ⟨y, H2, I2, r2, q2⟩ =>
    thn (ho pins s2 σ H2 x y v u _ I2 r1 r2 q2) fun d s3 ⟨z, H3, I3, r3, k, e, q3⟩ => ?_)) hm
  subst e
  cases r3
  refine wpAny_truthy_bool ?_
  cases k with
  | false => exact ite_ff ⟨.bl false, H3, I3, rfl, q3⟩
  | true => exact ite_tt (chain_last (thn (hc pins s3 σ H3 _ I3 q3) fun w' s4 ⟨z', H4, I4, r4, q4⟩ => ho' pins s4 σ H4 y z' u w' Q I4 r2 r4 q4))
theorem pt_chain {op op' : CmpOp} {r r' : R2} (ho : OpR X (compareOp op) r) (ho' : OpR X (compareOp op') r') (ha : PE X a ta) (hb : PE X b tb) (hc : PE X c tc)
    (hm : lastMarks [op, op'] [b, c] = false := by with_unfolding_all rfl) : PT X (.Compare a [op, op'] [b, c] pos) (tTest (tChain r r' ta tb tc)) := by
  intro pins s σ H Q I h
  refine isTrue_chain (thn (ha pins s σ H _ I h) fun v s1 ⟨x, H1, I1, r1, q1⟩ => test_link (thn (hb pins s1 σ H1 _ I1 q1) fun u s2 ⟨y, H2, I2, r2, q2⟩ =>
    thn (ho pins s2 σ H2 x y v u _ I2 r1 r2 q2) fun d s3 ⟨z, H3, I3, r3, k, e, q3⟩ => ?_)) hm
  subst e
  cases r3
  refine wpAny_truthy_bool ?_
  cases k with
  | false =>
    obtain ⟨k', e', q'⟩ := q3
    cases e'
    exact ite_ff ⟨H3, I3, q'⟩
  | true =>
    refine ite_tt (test_last (thn (hc pins s3 σ H3 _ I3 q3) fun w' s4 ⟨z', H4, I4, r4, q4⟩ => thn (ho' pins s4 σ H4 y z' u w' _ I4 r2 r4 q4) fun d' s5 ⟨z2, H5, I5, r5, k2, e2, q5⟩ => ?_))
    subst e2
    cases r5
    exact wpAny_truthy_bool ⟨H5, I5, q5⟩
def TruV (K : PySem.W.Frag) (x : V) (H : Hp) (k : Bool) : Prop :=
  match x with
  | .non => k = false
  | .bl b => k = b
  | .int i => k = (i != 0)
  | .str y => y.length ≤ sizeLine ∧ k = ((y.length : Int) != 0)
  | .byt y => y.size ≤ sizeLine ∧ k = ((y.size : Int) != 0)
  | .ref p => (∃ xs, SqL K H p xs ∧ k = !xs.isEmpty) ∨ (∃ xs, SqT K H p xs ∧ k = !xs.isEmpty) ∨ ∃ kvs, H p = some (.dK kvs) ∧ k = !kvs.isEmpty
  | _ => False
theorem isEmpty_kv {κ : Type} {kvs : List (κ × V)} {vs : List (κ × Value)} (r : KV kvs vs) : (!vs.isEmpty) = !kvs.isEmpty := by
  cases r <;> rfl
theorem isEmpty_of {xs : List V} {its : List Value} (r : Vals xs its) : (!its.toArray.isEmpty) = !xs.isEmpty := by
  cases r <;> simp
theorem line63 : (sizeLine : Nat) < 2 ^ 63 := by rw [sizeLine_eq]; decide
theorem tru_ok : TruR X (fun x H Q => ∃ k, TruV X.K x H k ∧ Q k H) := by
  intro pins s σ H x v Q I rx h
  obtain ⟨k, e, q⟩ := h
  have hl := line63
  have hs : sizeLine = 16777216 := sizeLine_eq
  cases x with
  | non =>
    cases rx
    have e' : k = false := e
    subst e'
    exact truthy_none ⟨H, I, q⟩
  | bl b =>
    cases rx
    have e' : k = b := e
    subst e'
    exact wpAny_truthy_bool ⟨H, I, q⟩
  | int i =>
    obtain ⟨t, rfl⟩ := rx
    have e' : k = (i != 0) := e
    subst e'
    exact PySem.P.truthy_int ⟨H, I, q⟩
  | str y =>
    obtain ⟨t, rfl⟩ := rx
    obtain ⟨hy, e'⟩ : y.length ≤ sizeLine ∧ k = ((y.length : Int) != 0) := e
    subst e'
    exact PySem.P.truthy_str (by omega) ⟨H, I.tok _, q⟩
  | byt y =>
    obtain ⟨t, rfl⟩ := rx
    obtain ⟨hy, e'⟩ : y.size ≤ sizeLine ∧ k = ((y.size : Int) != 0) := e
    subst e'
    exact PySem.W.truthy_bytes (by omega) ⟨H, I.tok _, q⟩
  | ref p =>
    cases rx
    have e' : (∃ xs, SqL X.K H p xs ∧ k = !xs.isEmpty) ∨ (∃ xs, SqT X.K H p xs ∧ k = !xs.isEmpty) ∨ ∃ kvs, H p = some (.dK kvs) ∧ k = !kvs.isEmpty := e
    rcases e' with ⟨xs, hx, e'⟩ | ⟨xs, hx, e'⟩ | ⟨kvs, hx, e'⟩
    · subst e'
      obtain ⟨its, r, pl, hz⟩ := I.list hx
      have hlen := r.length
      exact wpAny_truthy_list pl.isList (by simp only [List.size_toArray]; omega) ⟨H, I.tok _, by rw [isEmpty_of r]; exact q⟩
    · subst e'
      obtain ⟨its, r, pl, hz⟩ := I.tuple hx
      have hlen := r.length
      exact truthy_tuple pl (by simp only [List.size_toArray]; omega) ⟨H, I.tok _, by rw [isEmpty_of r]; exact q⟩
    · subst e'
      obtain ⟨hz, hS, vs, r, m⟩ : kvs.length ≤ sizeLine ∧ (p == sysModules) = false ∧ ∃ vs, KV kvs vs ∧ s.heap.DictOf (mixKind X.prog X.w) p vs := I.hok p _ hx
      have hlen : kvs.length = vs.length := Paired.length r
      exact wpAny_truthy_dict hS m (by omega) ⟨H, I.tok _, by rw [isEmpty_kv r]; exact q⟩
  | _ => exact (show False from e).elim
theorem pt_truth (ha : PE X a ta) (he : ∀ whole, isTrue a X.env whole = (do let v ← whole; standAt a.pos; holding [v] (truthy v))) :
    PT X a (fun σ H Q => ta σ H fun x H' => ∃ k, TruV X.K x H' k ∧ Q k H') := by
  intro pins s σ H Q I h
  exact isTrue_plain (thn (ha pins s σ H _ I h) fun v s1 ⟨x, H1, I1, r1, q1⟩ => tru_ok pins s1 σ H1 x v Q I1 r1 q1) (he _)
theorem op_add_str : OpR X (binaryOp .Add) (fun x y H Q => ∃ i j, x = .str i ∧ y = .str j ∧ i.length + j.length ≤ sizeLine ∧ Q (.str (i ++ j)) H) := by
  intro pins s σ H x y v u Q I rx ry h
  obtain ⟨i, j, rfl, rfl, hz, q⟩ := h
  obtain ⟨t, rfl⟩ := rx
  obtain ⟨t', rfl⟩ := ry
  exact add_str (fun t' tk => ⟨.str (i ++ j), H, I.tok _, ⟨_, rfl⟩, q⟩) hz
theorem vals1 {x : V} {us : List Value} (r : Vals [x] us) : ∃ u, us = [u] ∧ RelV x u := by
  cases r with
  | cons r1 r2 => cases r2; exact ⟨_, rfl, r1⟩
theorem vals2 {x y : V} {us : List Value} (r : Vals [x, y] us) : ∃ u w', us = [u, w'] ∧ RelV x u ∧ RelV y w' := by
  cases r with
  | cons r1 r2 =>
    cases r2 with
    | cons r3 r4 => cases r4; exact ⟨_, _, rfl, r1, r3⟩
theorem call_abs : CallR X (.builtin "abs") (fun xs H Q => ∃ i, xs = [.int i] ∧ Q (.int (if i < 0 then -i else i)) H) := by
  intro pins s σ H xs us Q I r h
  obtain ⟨i, rfl, q⟩ := h
  obtain ⟨u, rfl, t, rfl⟩ := vals1 r
  exact call_abs_int fun u tk => ⟨.int (if i < 0 then -i else i), H, I.tok _, ⟨_, rfl⟩, q⟩
theorem call_max2 (hc : X.calm = true) : CallR X (.builtin "max") (fun xs H Q => ∃ i j, xs = [.int i, .int j] ∧ Q (.int (if j > i then j else i)) H) := by
  intro pins s σ H xs us Q I r h
  obtain ⟨i, j, rfl, q⟩ := h
  obtain ⟨u, w', rfl, ⟨t, rfl⟩, ⟨t', rfl⟩⟩ := vals2 r
  refine max_two_ints (I.ok.hd hc) fun h' tk k => ⟨_, H, I.kept k, ?_, q⟩
  by_cases hj : j > i
  · rw [if_pos hj, if_pos hj]; exact ⟨_, rfl⟩
  · rw [if_neg hj, if_neg hj]; exact ⟨_, rfl⟩
theorem call_min2 (hc : X.calm = true) : CallR X (.builtin "min") (fun xs H Q => ∃ i j, xs = [.int i, .int j] ∧ Q (.int (if j < i then j else i)) H) := by
  intro pins s σ H xs us Q I r h
  obtain ⟨i, j, rfl, q⟩ := h
  obtain ⟨u, w', rfl, ⟨t, rfl⟩, ⟨t', rfl⟩⟩ := vals2 r
  refine min_two_ints (I.ok.hd hc) fun h' tk k => ⟨_, H, I.kept k, ?_, q⟩
  by_cases hj : j < i
  · rw [if_pos hj, if_pos hj]; exact ⟨_, rfl⟩
  · rw [if_neg hj, if_neg hj]; exact ⟨_, rfl⟩
theorem call_divmod : CallR X (.builtin "divmod") (fun xs H Q => ∃ i j, xs = [.int i, .int j] ∧ CDiv i j ∧ ∀ p, H p = none → Q (.ref p) (upd H p (.tup [.int (i / j), .int (i % j)]))) := by
  intro pins s σ H xs us Q I r h
  obtain ⟨i, j, rfl, ⟨h1, h2⟩, q⟩ := h
  obtain ⟨u, w', rfl, ⟨t, rfl⟩, ⟨t', rfl⟩⟩ := vals2 r
  refine divmod_int (by omega) ?_ (.inl (PyProof.noPylong_small (by omega)))
  rw [Int.fdiv_eq_ediv_of_nonneg i (by omega), Int.fmod_eq_emod_of_nonneg i (by omega)]
  have hn : H s.heap.objs.size = none := I.hok.fresh (Nat.le_refl _)
  refine ⟨.ref s.heap.objs.size, _, ?_, rfl, q _ hn⟩
  refine I.laid (fun b o e => Heap.get?_push_of_some _ e) (Nat.le_refl _) ⟨by simp only [List.length_cons, List.length_nil]; rw [sizeLine_eq]; decide, [.int (i / j) s.toks, .int (i % j) (s.toks + 1)], .cons ⟨_, rfl⟩ (.cons ⟨_, rfl⟩ .nil), ?_⟩
  exact ⟨_, Heap.get?_push_size s.heap rfl, rfl, 0, rfl⟩
end
end L2
namespace L2
open PySem PySem.Spec PyProof.Rows
structure ObjM (h : Heap) (x dx C : Addr) (mA : Str → Option Value) : Prop where
  obj : h.get? x = some (PySem.W.instObj C dx)
  ns : h.Ns1 dx mA
  ne : dx ≠ x
theorem lookIn_ns {h : Heap} {dx : Addr} {mA : Str → Option Value} (n : h.Ns1 dx mA) : ∃ od, h.get? dx = some od ∧ ∀ name, PySem.W.lookIn name od = some (mA name) := by
  obtain ⟨o, es, ep, ho, hd, hk, _, hm⟩ := n
  refine ⟨o, ho, fun name => ?_⟩
  have e := hm name
  unfold nsFind findBy at e
  rw [← Array.find?_toList] at e
  unfold PySem.W.lookIn
  rw [hd]
  dsimp only
  split
  · rename_i y q
    rw [q] at e
    exact congrArg some e
  · rename_i q
    rw [q] at e
    have a : es.toList.any (·.refKey) = false := by
      rw [List.any_eq_false]
      intro y hy
      obtain ⟨z, t, hkey⟩ := hk y (Array.mem_toList_iff.mp hy)
      simp [DictEntry.refKey, hkey]
    have a' : ¬ es.toList.any (·.refKey) = true := by rw [a]; exact Bool.false_ne_true
    rw [if_neg a']
    exact congrArg some e
theorem ObjM.look {h : Heap} {x dx C : Addr} {mA : Str → Option Value} (I : ObjM h x dx C mA) : ∃ od, PySem.W.InstAt h x (PySem.W.instObj C dx) C (some od) ∧ ∀ name, PySem.W.lookIn name od = some (mA name) :=
  let ⟨od, ho, hl⟩ := lookIn_ns I.ns
  ⟨od, ⟨I.obj, rfl, rfl, ho⟩, hl⟩
section
variable {prog : Program} {w : World} {A : Around} {E : Value → Shared → Prop} {s : Shared} {K : PySem.W.Frag} {x dx C f : Addr} {mA : Str → Option Value} {name : Str} {v : Value}
theorem get_map {expr : Bool} {Q : Value → Shared → Prop} (X : K.In s.heap) (I : ObjM s.heap x dx C mA) (hg : PySem.W.plainGet K C name = true) (hh : PySem.W.hasDictIn K C = true)
    (ha : PySem.W.findIn K (.ref C) name = some none) (hv : mA name = some v) (hv' : PySem.W.handedIn v = true) (h : Q v { s with toks := s.toks + 1 }) :
    wpAny (model prog w) A (getAttr (.ref x) name expr) Q E s := by
  obtain ⟨od, J, hl⟩ := I.look
  exact PySem.W.get_value X J (PySem.W.plainGet_of hg).1 (PySem.W.findObj_own hh ha rfl (by rw [hl, hv])) hv' h
theorem get_meth {pl : Sem Bool} {Q : Value × List Value → Shared → Prop} (X : K.In s.heap) (I : ObjM s.heap x dx C mA) (hg : PySem.W.plainGet K C name = true)
    (hf : PySem.W.findIn K (.ref C) name = some (some (.ref f))) (ht : PySem.W.isFn K (.ref f) = true) (hv : mA name = none) (h : Q (.ref f, [.ref x]) s) :
    wpAny (model prog w) A (getMethod (.ref x) name pl) Q E s := by
  obtain ⟨od, J, hl⟩ := I.look
  exact PySem.W.method_fn X J (PySem.W.plainGet_of hg).1 (PySem.W.plainGet_of hg).2 hf (beq_iff_eq.mp ht) (by show (PySem.W.lookIn name od).map (·.isSome) = some false; rw [hl, hv]; rfl) h
theorem set_map {ns : List Str} {Q : Unit → Shared → Prop} (X : K.In s.heap) (I : ObjM s.heap x dx C mA)
    (hs : PySem.W.findIn K (.ref C) "__setattr__" = some (some (.builtin "object.__setattr__"))) (hp : PySem.W.plainOver K C = true) (ht : PySem.W.takerIn K C name = some none) (hh : PySem.W.hasDictIn K C = true)
    (hw : PySem.Within mA ns) (hsz : ns.length ≤ sizeLine)
    (h : ∀ h', ObjM h' x dx C (fun y => if y = name then some v else mA y) → Heap.SameBut dx s.heap h' → Q () { s with heap := h', toks := s.toks + 2 }) :
    wpAny (model prog w) A (setAttr (.ref x) name v) Q E s := by
  obtain ⟨od, J, hl⟩ := I.look
  refine PySem.W.set_plain X J hs (PySem.W.osa_open (s := { s with toks := s.toks + 1 }) (r := none) X J hp ht fun b => ?_)
  obtain ⟨cd, hc, hd'⟩ := PySem.W.any_some hh
  have hx : s.heap.get? x = some ⟨.ref C, some dx, .plain, #[]⟩ := I.obj
  refine wpAny_bind (wpAny_pure (wpAny_bind (wpAny_bind (wpAny_loadPart hx (wpAny_bind (PySem.W.Looks.here (s := { s with toks := s.toks + 1 }) (PySem.W.looks_clsIn X hc) ?_))))))
  rw [hd']
  refine wpAny_pure (a := some dx) (wpAny_bind (wpAny_pure (wpAny_bind ?_)))
  refine wpAny_nsSet1 (s := { s with toks := s.toks + 1 }) I.ns fun h' hn2 hs2 => ?_
  obtain ⟨oD, esD, epD, hoD, hdD, hcD⟩ := hn2.count (PySem.Within.cons name v hw)
  refine wpAny_bind (wpAny_lookBehind hoD (by rw [hdD]; exact pastItsLine_dict (Nat.le_trans hcD (by rw [List.length_cons]; omega))) ?_)
  exact wpAny_pure (h _ ⟨(hs2.2 _ (Ne.symm I.ne)).trans I.obj, hn2, I.ne⟩ hs2)
theorem make_map {R : Result → Shared → Prop} {vs : List Value} {kw : List (Str × Value)} (X : K.In s.heap) (hm : PySem.W.makesIn K C = true)
    (hi : PySem.W.findIn K (.ref C) "__init__" = some (some (.ref f))) (hf : PySem.W.typeIn K (.ref f) = some (.type "function"))
    (h : codeAny (model prog w) (A.under (.builtin "type.__call__" ⟨.ref C :: vs, kw⟩)) (.call (.ref f) ⟨.ref (s.heap.objs.size + 1) :: vs, kw⟩) (PySem.W.InitBack (s.heap.objs.size + 1) R)
      { s with heap := (s.heap.push PySem.W.emptyDict).push (PySem.W.instObj C s.heap.objs.size) }) :
    codeAny (model prog w) A (.call (.ref C) ⟨vs, kw⟩) R s := by
  obtain ⟨hh, g, d, t, os⟩ := s
  exact PySem.W.make_core (PySem.W.makes_of X hm) (PySem.W.looks_findIn X hi) (fun self => PySem.W.bind_fn X self hf) (.inl rfl) h
theorem make_map0 {R : Result → Shared → Prop} (X : K.In s.heap) (hm : PySem.W.makesIn K C = true)
    (hi : PySem.W.findIn K (.ref C) "__init__" = some (some (.builtin "object.__init__")))
    (hb : ∀ self, PySem.W.Looks (model prog w) s.heap (bindSpecial (.builtin "object.__init__") self) (.builtin "object.__init__", [self]))
    (h : codeAny (model prog w) (A.under (.builtin "type.__call__" ⟨[.ref C], []⟩)) (.call (.builtin "object.__init__") ⟨[.ref (s.heap.objs.size + 1)], []⟩) (PySem.W.InitBack (s.heap.objs.size + 1) R)
      { s with heap := (s.heap.push PySem.W.emptyDict).push (PySem.W.instObj C s.heap.objs.size) }) :
    codeAny (model prog w) A (.call (.ref C) ⟨[], []⟩) R s := by
  obtain ⟨hh, g, d, t, os⟩ := s
  exact PySem.W.make_core (PySem.W.makes_of X hm) (PySem.W.looks_findIn X hi) hb (.inr ⟨rfl, rfl⟩) h
end
def putF (f : Str) (v : V) : List (Str × V) → List (Str × V)
  | [] => [(f, v)]
  | (g, x) :: r => if g = f then (g, v) :: r else (g, x) :: putF f v r
theorem lookup_putF (f g : Str) (v : V) : ∀ fs : List (Str × V), (putF f v fs).lookup g = if g = f then some v else fs.lookup g
  | [] => by
    show List.lookup g [(f, v)] = _
    by_cases h : g = f
    · have hb : (g == f) = true := beq_iff_eq.mpr h
      simp only [List.lookup, hb, if_pos h]
    · have hb : (g == f) = false := beq_eq_false_iff_ne.mpr h
      simp only [List.lookup, hb, if_neg h]
  | (k, x) :: r => by
    have ih := lookup_putF f g v r
    rw [show putF f v ((k, x) :: r) = (if k = f then (k, v) :: r else (k, x) :: putF f v r) from rfl]
    by_cases hk : k = f
    · rw [if_pos hk]
      by_cases h : g = k
      · have hb : (g == k) = true := beq_iff_eq.mpr h
        simp only [List.lookup, hb, if_pos (h.trans hk)]
      · have hb : (g == k) = false := beq_eq_false_iff_ne.mpr h
        simp only [List.lookup, hb, if_neg (fun e : g = f => h (e.trans hk.symm))]
    · rw [if_neg hk]
      by_cases h : g = k
      · have hb : (g == k) = true := beq_iff_eq.mpr h
        simp only [List.lookup, hb, if_neg (fun e : g = f => hk (h.symm.trans e))]
      · have hb : (g == k) = false := beq_eq_false_iff_ne.mpr h
        simp only [List.lookup, hb]
        exact ih
theorem keys_putF (f : Str) (v : V) : ∀ fs : List (Str × V), f ∈ (putF f v fs).map (·.1) ∧ ∀ g, g ∈ fs.map (·.1) → g ∈ (putF f v fs).map (·.1)
  | [] => ⟨by simp [putF], fun g h => by simp at h⟩
  | (k, x) :: r => by
    obtain ⟨i1, i2⟩ := keys_putF f v r
    rw [show putF f v ((k, x) :: r) = (if k = f then (k, v) :: r else (k, x) :: putF f v r) from rfl]
    by_cases hk : k = f
    · rw [if_pos hk]
      subst hk
      exact ⟨by simp, fun g h => by simpa using h⟩
    · rw [if_neg hk]
      refine ⟨?_, fun g h => ?_⟩
      · rw [List.map_cons]
        exact List.mem_cons_of_mem _ i1
      · rw [List.map_cons] at h ⊢
        rcases List.mem_cons.mp h with e | e
        · exact List.mem_cons.mpr (.inl e)
        · exact List.mem_cons_of_mem _ (i2 g e)
theorem length_putF (f : Str) (v : V) : ∀ fs : List (Str × V), (putF f v fs).length ≤ fs.length + 1
  | [] => by simp [putF]
  | (k, x) :: r => by
    have ih := length_putF f v r
    rw [show putF f v ((k, x) :: r) = (if k = f then (k, v) :: r else (k, x) :: putF f v r) from rfl]
    by_cases hk : k = f
    · rw [if_pos hk, List.length_cons, List.length_cons]; omega
    · rw [if_neg hk, List.length_cons, List.length_cons]; omega
theorem RelO.some_of {v : V} {o : Option Value} (r : RelO (some v) o) : ∃ u, o = some u ∧ RelV v u := by
  cases o with
  | none => exact (show False from r).elim
  | some u => exact ⟨u, rfl, r⟩
theorem RelO.none_of {o : Option Value} (r : RelO none o) : o = none := by
  cases o with
  | none => rfl
  | some u => exact (show False from r).elim
theorem handed_of {v : V} {u : Value} (r : RelV v u) : PySem.W.handedIn u = true := by
  cases v with
  | non => cases (show u = Value.none from r); rfl
  | bl b => cases (show u = Value.bool b from r); rfl
  | int i => obtain ⟨t, e⟩ := (show ∃ t, u = Value.int i t from r); cases e; rfl
  | str x => obtain ⟨t, e⟩ := (show ∃ t, u = Value.str x t from r); cases e; rfl
  | byt b => obtain ⟨t, e⟩ := (show ∃ t, u = Value.bytes b t from r); cases e; rfl
  | flt b => obtain ⟨t, e⟩ := (show ∃ t, u = Value.float b t from r); cases e; rfl
  | ref a => cases (show u = Value.ref a from r); rfl
  | ty n => cases (show u = Value.type n from r); rfl
section
variable {P : Program} {w : World} {H H' : Hp} {h h' : Heap} {a C dx : Addr} {fs fs' : List (Str × V)}
theorem ins_get (hok : HOk P w H h) (e : H a = some (.ins C dx fs)) : ∃ mA, ObjM h a dx C mA ∧ (∀ f, RelO (fs.lookup f) (mA f)) ∧ PySem.Within mA (fs.map (·.1)) ∧ fs.length ≤ 1000 ∧ H dx = some (.own a) := by
  obtain ⟨d, z, ne, ob, mA, n, r, q⟩ := (show ObjOk P w H h a (.ins C dx fs) from hok a _ e)
  exact ⟨mA, ⟨ob, n, ne⟩, r, q, z, d⟩
end
structure Cls (K : PySem.W.Frag) (C : Addr) : Prop where
  pg : PySem.W.plainGet K C Str.empty = true
  hd : PySem.W.hasDictIn K C = true
  po : PySem.W.plainOver K C = true
  sa : PySem.W.findIn K (.ref C) "__setattr__" = some (some (.builtin "object.__setattr__"))
theorem Cls.get {K : PySem.W.Frag} {C : Addr} (c : Cls K C) (f : Str) : PySem.W.plainGet K C f = true := c.pg
def NoAttr (K : PySem.W.Frag) (C : Addr) (f : Str) : Prop := PySem.W.findIn K (.ref C) f = some none
theorem NoAttr.taker {K : PySem.W.Frag} {C : Addr} {f : Str} (n : NoAttr K C f) : PySem.W.takerIn K C f = some none := by
  unfold PySem.W.takerIn
  rw [show PySem.W.findIn K (.ref C) f = some none from n]
  rfl
structure Con (K : PySem.W.Frag) (C : Addr) (f : Str) (v : V) (u : Value) : Prop where
  at_ : PySem.W.findIn K (.ref C) f = some (some u)
  rel : RelV v u
  get : PySem.W.specialIn K u "__get__" = some none
  cp : PySem.W.copiedNames.contains f = false
structure Meth (K : PySem.W.Frag) (C : Addr) (m : Str) (f : Addr) : Prop where
  at_ : PySem.W.findIn K (.ref C) m = some (some (.ref f))
  fn : PySem.W.isFn K (.ref f) = true
  kp : PySem.W.keepIn K (.ref f) = true
section
variable {X : Cx} {pins : List (Addr × Obj)} {σ : St} {H : Hp} {s : Shared} {a C dx : Addr} {fs : List (Str × V)} {f : Str} {v : V} {A : Around} {E : Value → Shared → Prop}
theorem getattr_ok {b : Bool} {Q : Value → Shared → Prop} (I : Inv X pins σ H s) (e : H a = some (.ins C dx fs)) (c : Cls X.K C) (n : NoAttr X.K C f) (l : fs.lookup f = some v)
    (h : ∀ u s', Inv X pins σ H s' → RelV v u → Q u s') : wpAny (model X.prog X.w) A (getAttr (.ref a) f b) Q E s := by
  obtain ⟨mA, O, r, _, _, _⟩ := ins_get I.hok e
  obtain ⟨u, hu, ru⟩ := RelO.some_of (v := v) (o := mA f) (by rw [← l]; exact r f)
  exact get_map I.kIn O (c.get f) c.hd n hu (handed_of ru) (h u _ (I.tok _) ru)
theorem getmeth_ok {m : Str} {g : Addr} {pl : Sem Bool} {Q : Value × List Value → Shared → Prop} (I : Inv X pins σ H s) (e : H a = some (.ins C dx fs)) (c : Cls X.K C) (k : Meth X.K C m g) (l : fs.lookup m = none)
    (h : Q (.ref g, [.ref a]) s) : wpAny (model X.prog X.w) A (getMethod (.ref a) m pl) Q E s := by
  obtain ⟨mA, O, r, _, _, _⟩ := ins_get I.hok e
  have hn : mA m = none := RelO.none_of (by rw [← l]; exact r m)
  exact get_meth I.kIn O (c.get m) k.at_ k.fn hn h
theorem setattr_ok {y : V} {u : Value} {Q : Unit → Shared → Prop} (I : Inv X pins σ H s) (e : H a = some (.ins C dx fs)) (c : Cls X.K C) (n : NoAttr X.K C f) (hl : fs.length < 1000) (ry : RelV y u)
    (h : ∀ s', Inv X pins σ (upd H a (.ins C dx (putF f y fs))) s' → Q () s') : wpAny (model X.prog X.w) A (setAttr (.ref a) f u) Q E s := by
  obtain ⟨mA, O, r, wi, _, ho⟩ := ins_get I.hok e
  have hz : (fs.map (·.1)).length ≤ sizeLine := by rw [List.length_map, sizeLine_eq]; omega
  refine set_map I.kIn O c.sa c.po n.taker c.hd wi hz fun h' O' sb => h _ ?_
  have hd : ∃ o, h'.get? dx = some o := let ⟨o, _, _, e', _⟩ := O'.ns; ⟨o, e'⟩
  refine I.write (x := a) (e := dx) (by rw [e]; exact True.intro) (.inr ho) (fun b q hb z => (sb.2 b hb).trans z) hd ?_
  refine ⟨by rw [upd_ne O.ne]; exact ho, ?_, O.ne, O'.obj, _, O'.ns, fun g => ?_, fun g hg => ?_⟩
  · have := length_putF f y fs; omega
  · show RelO ((putF f y fs).lookup g) (if g = f then some u else mA g)
    rw [lookup_putF]
    by_cases q : g = f
    · rw [if_pos q, if_pos q]; exact ry
    · rw [if_neg q, if_neg q]; exact r g
  · by_cases q : g = f
    · rw [q]; exact (keys_putF f y fs).1
    · refine (keys_putF f y fs).2 g (wi g fun z => hg ?_)
      show (if g = f then some u else mA g) = none
      rw [if_neg q]; exact z
theorem Inv.made (I : Inv X pins σ H s) : Inv X pins σ (upd (upd H s.heap.objs.size (.own (s.heap.objs.size + 1))) (s.heap.objs.size + 1) (.ins C s.heap.objs.size []))
    { s with heap := (s.heap.push PySem.W.emptyDict).push (PySem.W.instObj C s.heap.objs.size) } := by
  have e1 : (s.heap.push PySem.W.emptyDict).get? s.heap.objs.size = some PySem.W.emptyDict := Heap.get?_push_size s.heap rfl
  have e2 : ((s.heap.push PySem.W.emptyDict).push (PySem.W.instObj C s.heap.objs.size)).get? (s.heap.objs.size + 1) = some (PySem.W.instObj C s.heap.objs.size) := by
    have := Heap.get?_push_size (s.heap.push PySem.W.emptyDict) (o := PySem.W.instObj C s.heap.objs.size) rfl
    rwa [Heap.size_push] at this
  have e3 : (s.heap.push PySem.W.emptyDict).Ns s.heap.objs.size (fun _ => none) := ⟨PySem.W.emptyDict, #[], _, e1, rfl, (fun e he => absurd he (by simp)), fun _ => rfl⟩
  have I1 := I.laid (a := s.heap.objs.size) (o := .own (s.heap.objs.size + 1)) (h' := s.heap.push PySem.W.emptyDict) (t' := s.toks) (fun b u q => Heap.get?_push_of_some _ q) (Nat.le_refl _) ⟨_, e1⟩
  refine I1.laid (a := s.heap.objs.size + 1) (o := .ins C s.heap.objs.size []) (t' := s.toks) (fun b u q => Heap.get?_push_of_some _ q) (Nat.le_of_eq (Heap.size_push _ _)) ?_
  have ne : s.heap.objs.size ≠ s.heap.objs.size + 1 := Nat.ne_of_lt (Nat.lt_succ_self _)
  refine ⟨by rw [upd_ne ne, upd_same], Nat.zero_le _, ne, e2, fun _ => none, (Heap.Ns1.of_empty e3).at fun o q => Heap.get?_push_of_some _ q, fun _ => True.intro, fun y hy => absurd rfl hy⟩
theorem attr_of {prog : Program} {w : World} {env : Env} {e : Expr} {f : Str} {pos : Pos} {s : Shared} {Q : Value → Shared → Prop} (hb : attributeBase e f env (eval e env) = eval e env)
    (h : wpAny (model prog w) A (eval e env) (fun o s₁ => wpAny (model prog w) A (getAttr o f true) Q E s₁) E s) : wpAny (model prog w) A (eval (.Attribute e f pos) env) Q E s :=
  Attribute_any_ h (by rw [arm_eval_Attribute, hb])
end
section
variable {X : Cx} {o e value : Expr} {f : Str} {pos pos' tpos : Pos} {ta tv : TE}
end
section
variable {X : Cx} {pins : List (Addr × Obj)} {σ : St} {H : Hp} {s : Shared} {A : Around} {E : Value → Shared → Prop} {Q : Value → Shared → Prop} {c : Value} {b : Bool}
inductive TyOf (K : PySem.W.Frag) (H : Hp) : V → Value → Prop where
  | non : TyOf K H .non (.type "NoneType")
  | bl (x : Bool) : TyOf K H (.bl x) (.type "bool")
  | int (i : Int) : TyOf K H (.int i) (.type "int")
  | str (x : Str) : TyOf K H (.str x) (.type "str")
  | flt (x : UInt64) : TyOf K H (.flt x) (.type "float")
  | lst {a : Addr} {xs : List V} (e : H a = some (.lst xs)) : TyOf K H (.ref a) (.type "list")
  | frz {a : Addr} {o : Obj} {xs : List V} (e : H a = some (.frz o (.lst xs))) : TyOf K H (.ref a) (.type "list")
  | tup {a : Addr} {xs : List V} (e : H a = some (.tup xs)) : TyOf K H (.ref a) (.type "tuple")
  | dK {a : Addr} {kvs : List (Key × V)} (e : H a = some (.dK kvs)) : TyOf K H (.ref a) (.type "dict")
  | dT {a : Addr} {kvs : List (List Key × V)} (e : H a = some (.dT kvs)) : TyOf K H (.ref a) (.type "dict")
  | ins {a C dx : Addr} {fs : List (Str × V)} (e : H a = some (.ins C dx fs)) (cl : Cls K C) (ha : PySem.W.findIn K (.ref C) "__class__" = some (some (.builtin "object.__class__")))
      (hn : PySem.W.specialIn K (.builtin "object.__class__") "__get__" = some (some (.builtin "getset_descriptor.__get__"))) (htk : PySem.W.takesIn K (.builtin "object.__class__") = some true)
      (hm : PySem.W.mroIn K C (.type "object") = some true) : TyOf K H (.ref a) (.ref C)
theorem isinst_ok {x : V} {u t : Value} (I : Inv X pins σ H s) (rx : RelV x u) (ty : TyOf X.K H x t) (e : PySem.W.kitOne X.K t c = some b) (h : ∀ tk, Q (.bool b) { s with toks := tk }) :
    wpAny (model X.prog X.w) A (call (.builtin "isinstance") [u, c]) Q E s := by
  cases ty with
  | non => cases (show u = Value.none from rx); exact PySem.W.kia_one PySem.W.kitx_none I.kIn True.intro e (fun z => nomatch z) h
  | bl y => cases (show u = Value.bool y from rx); exact PySem.W.kia_one PySem.W.kitx_bool I.kIn True.intro e (fun z => nomatch z) h
  | int i => obtain ⟨t, q⟩ := (show ∃ t, u = Value.int i t from rx); cases q; exact PySem.W.kia_one PySem.W.kitx_int I.kIn True.intro e (fun z => nomatch z) h
  | str y => obtain ⟨t, q⟩ := (show ∃ t, u = Value.str y t from rx); cases q; exact PySem.W.kia_one PySem.W.kitx_str I.kIn True.intro e (fun z => nomatch z) h
  | flt y => obtain ⟨t, q⟩ := (show ∃ t, u = Value.float y t from rx); cases q; exact PySem.W.kia_one PySem.W.kitx_float I.kIn True.intro e (fun z => nomatch z) h
  | @lst a xs ea =>
    cases (show u = Value.ref a from rx)
    obtain ⟨_, _, n, _, h1⟩ := (show ObjOk X.prog X.w H s.heap a (.lst xs) from I.hok a _ ea)
    exact PySem.W.kia_one PySem.W.kitx_list I.kIn ⟨_, h1, rfl⟩ e (fun z => nomatch z) h
  | @frz a ob xs ea =>
    cases (show u = Value.ref a from rx)
    obtain ⟨_, _, _, n, _, h1⟩ := (show ObjOk X.prog X.w H s.heap a (.frz ob (.lst xs)) from I.hok a _ ea)
    exact PySem.W.kia_one PySem.W.kitx_list I.kIn ⟨_, h1, rfl⟩ e (fun z => nomatch z) h
  | @tup a xs ea =>
    cases (show u = Value.ref a from rx)
    obtain ⟨_, _, _, p⟩ := (show ObjOk X.prog X.w H s.heap a (.tup xs) from I.hok a _ ea)
    obtain ⟨o, h1, h2, _⟩ := p
    exact PySem.W.kia_one PySem.W.kitx_tuple I.kIn ⟨o, h1, h2⟩ e (fun z => nomatch z) h
  | @dK a kvs ea =>
    cases (show u = Value.ref a from rx)
    obtain ⟨_, _, vs, _, p⟩ := (show ObjOk X.prog X.w H s.heap a (.dK kvs) from I.hok a _ ea)
    obtain ⟨o, es, ep, h1, h2, _⟩ := p
    exact PySem.W.kia_one PySem.W.kitx_dict I.kIn ⟨o, h1, h2.1⟩ e (fun z => nomatch z) h
  | @dT a kvs ea =>
    cases (show u = Value.ref a from rx)
    obtain ⟨_, _, xs, _, o, es, ep, h1, h2, _⟩ := (show ObjOk X.prog X.w H s.heap a (.dT kvs) from I.hok a _ ea)
    exact PySem.W.kia_one PySem.W.kitx_dict I.kIn ⟨o, h1, h2.1⟩ e (fun z => nomatch z) h
  | @ins a C dx fs ea cl ha hn htk hm =>
    cases (show u = Value.ref a from rx)
    obtain ⟨mA, O, _⟩ := ins_get I.hok ea
    obtain ⟨od, J, _⟩ := O.look
    exact PySem.W.kia_one (PySem.W.kitx_own (cl.get _) cl.hd ha hn htk hm) I.kIn J e (fun z => nomatch z) h
end
end L2
namespace L2
open PySem PySem.Spec PyProof.Rows
structure Room (k : Nat) (A : Around) : Prop where
  hd : A.handled = none
  dp : A.depth + 3 * k + 5 < recursionLimit
  un : A.units + 16 * k + 200 < cLine
theorem Room.mono {j k : Nat} {A : Around} (r : Room k A) (h : j ≤ k) : Room j A := ⟨r.hd, by have := r.dp; omega, by have := r.un; omega⟩
theorem Room.deeper {k : Nat} {A : Around} (r : Room (k + 1) A) (env : Env) : Room k (A.deeper env) :=
  ⟨r.hd, by have := r.dp; show A.depth + 1 + 3 * k + 5 < _; omega, by have := r.un; show A.units + 3 + 16 * k + 200 < _; omega⟩
theorem Room.in1 {k : Nat} {A : Around} (r : Room (k + 1) A) : Room k A.in1 :=
  ⟨r.hd, by have := r.dp; show A.depth + 3 * k + 5 < _; omega, by have := r.un; show A.units + 1 + 16 * k + 200 < _; omega⟩
theorem make_depth {A : Around} {C : Addr} {us : List Value} {kw : List (Str × Value)} : (A.under (.builtin "type.__call__" ⟨.ref C :: us, kw⟩)).depth = A.depth + 1 := by
  first | rfl | simp [Around.under, Code.weight, Code.isCreation, Code.isGuard, Code.isCaller, Code.frames, Code.isFrame, guardIds]
theorem make_units {A : Around} {C : Addr} {us : List Value} {kw : List (Str × Value)} : (A.under (.builtin "type.__call__" ⟨.ref C :: us, kw⟩)).units = A.units + 1 := by
  first | rfl | simp [Around.under, Code.cUnits, Code.frames, Code.isFrame]
theorem Room.make {k : Nat} {A : Around} (r : Room (k + 1) A) (C : Addr) (us : List Value) (kw : List (Str × Value)) : Room k (A.under (.builtin "type.__call__" ⟨.ref C :: us, kw⟩)) :=
  ⟨r.hd, by have := r.dp; rw [make_depth]; omega, by have := r.un; rw [make_units]; omega⟩
theorem Room.depth {k : Nat} {A : Around} (r : Room k A) : A.depth < recursionLimit := by have := r.dp; omega
theorem Room.units {k : Nat} {A : Around} (r : Room k A) : A.units + 64 < cLine := by have := r.un; omega
def tNil : TA := fun _ H Q => Q [] H
def tCons (ta : TE) (tr : TA) : TA := fun σ H Q => ta σ H fun x H1 => tr σ H1 fun xs H2 => Q (x :: xs) H2
section
variable {X : Cx} {e : Expr} {es : List Expr} {te : TE} {t : TA} {pos : Pos}
theorem pa_nil : PA X [] tNil := fun _ _ _ _ H Q I h => Calls.spliced_nil ⟨[], H, I, .nil, h⟩
theorem pa_cons (ha : PE X e te) (hr : PA X es t) (hs : starEach (e :: es) X.env = (false, eval e X.env) :: starEach es X.env := by rfl) : PA X (e :: es) (tCons te t) := by
  intro pos pins s σ H Q I h
  rw [hs]
  show wpAny _ _ (spliced ((false, eval e X.env) :: backTo pos (starEach es X.env))) _ _ s
  refine Calls.spliced_cons (thn (ha pins s σ H _ I h) fun u s1 ⟨x, H1, I1, r1, q1⟩ => ?_)
  exact thn (hr pos pins s1 σ H1 _ I1 q1) fun us s2 ⟨xs, H2, I2, r2, q2⟩ => ⟨x :: xs, H2, I2, .cons r1 r2, q2⟩
def tTup (t : TA) : TE := fun σ H Q => t σ H fun xs H1 => xs.length ≤ sizeLine ∧ ∀ p, H1 p = none → Q (.ref p) (upd H1 p (.tup xs))
def tLst (t : TA) : TE := fun σ H Q => t σ H fun xs H1 => xs.length ≤ sizeLine ∧ ∀ p, H1 p = none → Q (.ref p) (upd H1 p (.lst xs))
theorem pe_tup {x1} (h : PA X es t) : PE X (.Tuple es x1 pos) (tTup t) := by
  intro pins s σ H Q I hq
  refine wpAny_Tuple_spliced (thn (h pos pins s σ H _ I hq) fun us s1 ⟨xs, H1, I1, r, z, q⟩ => ⟨by rw [← r.length]; exact z, ?_⟩)
  have hf : H1 s1.heap.objs.size = none := I1.hok.fresh (Nat.le_refl _)
  refine ⟨.ref s1.heap.objs.size, upd H1 s1.heap.objs.size (.tup xs), I1.laid (t' := s1.toks) (fun b u e => Heap.get?_push_of_some _ e) (Nat.le_refl _) ?_, rfl, q _ hf⟩
  exact ⟨z, us, r, ⟨_, Heap.get?_push_size _ rfl, rfl, _, rfl⟩⟩
theorem pe_lst (h : PA X es t) : PE X (.List es pos) (tLst t) := by
  intro pins s σ H Q I hq
  refine wpAny_List_spliced (thn (h pos pins s σ H _ I hq) fun us s1 ⟨xs, H1, I1, r, z, q⟩ => ⟨by rw [← r.length]; exact z, ?_⟩)
  have hf : H1 s1.heap.objs.size = none := I1.hok.fresh (Nat.le_refl _)
  refine ⟨.ref s1.heap.objs.size, upd H1 s1.heap.objs.size (.lst xs), I1.laid (t' := s1.toks) (fun b u e => Heap.get?_push_of_some _ e) (Nat.le_refl _) ?_, rfl, q _ hf⟩
  exact ⟨z, us, 0, r, Heap.get?_push_size _ rfl⟩
end
abbrev Sp := List V → Hp → VK → XK → Prop
abbrev CXT := List Env → Hp → Shared → XK → Value → Shared → Prop
structure Env0 (P : Program) (w : World) (K : PySem.W.Frag) (mg : Str → Option Value) (base : Heap) (A : Around) (outer : List Env) (s : Shared) (H : Hp) : Prop where
  frames : A.frames = some outer
  mod : Mod K mg base
  bs : ∀ b o, base.get? b = some o → s.heap.get? b = some o ∧ H b = none
  bsz : base.objs.size ≤ s.heap.objs.size
  funs : s.heap.FunFrames base outer
  frf : ∀ b ∈ frs outer, H b = none
  hok : HOk P w H s.heap
  bare : AllBare s.gens
def CE (outer : List Env) (P : Program) (w : World) (H : Hp) (s : Shared) (Q : VK) (u : Value) (s' : Shared) : Prop :=
  ∃ v H', s'.os = s.os ∧ AllBare s'.gens ∧ Un (frs outer) [] H H' s.heap s'.heap ∧ HOk P w H' s'.heap ∧ RelV v u ∧ Q v H'
def CR (CX : CXT) (outer : List Env) (P : Program) (w : World) (H : Hp) (s : Shared) (Q : VK) (E : XK) (r : Result) (s' : Shared) : Prop :=
  match r with
  | .ok (.ret u) => CE outer P w H s Q u s'
  | .ok _ => False
  | .error e => CX outer H s E e s'
structure FnOk (P : Program) (w : World) (K : PySem.W.Frag) (mg : Str → Option Value) (base : Heap) (CX : CXT) (k : Nat) (f : Addr) (fd : FuncData) (ps : List Str) (sp : Sp) : Prop where
  len : ∀ vs H Q E, sp vs H Q E → vs.length = ps.length
  run : ∀ (A : Around) (outer : List Env) (s : Shared) (H : Hp) (args : Args) (us : List Value) (vs : List V) (Q : VK) (E : XK), Room k A → Env0 P w K mg base A outer s H → BindsTo s fd args (ps.zip us) → Vals vs us → sp vs H Q E →
    codeAny (model P w) A (.call (.ref f) args) (CR CX outer P w H s Q E) s
theorem FnOk.mono {P : Program} {w : World} {K : PySem.W.Frag} {mg : Str → Option Value} {base : Heap} {CX : CXT} {j k : Nat} {f : Addr} {fd : FuncData} {ps : List Str} {sp : Sp} (F : FnOk P w K mg base CX j f fd ps sp) (h : j ≤ k) :
    FnOk P w K mg base CX k f fd ps sp := ⟨F.len, fun A outer s H args us vs Q E hr => F.run A outer s H args us vs Q E (hr.mono h)⟩
theorem FnOk.imp {P : Program} {w : World} {K : PySem.W.Frag} {mg : Str → Option Value} {base : Heap} {CX : CXT} {k : Nat} {f : Addr} {fd : FuncData} {ps : List Str} {sp sp' : Sp} (F : FnOk P w K mg base CX k f fd ps sp)
    (h : ∀ vs H Q E, sp' vs H Q E → sp vs H Q E) : FnOk P w K mg base CX k f fd ps sp' :=
  ⟨fun vs H Q E q => F.len vs H Q E (h _ _ _ _ q), fun A outer s H args us vs Q E hr he hb hv hs => F.run A outer s H args us vs Q E hr he hb hv (h _ _ _ _ hs)⟩
theorem Env0.make {P : Program} {w : World} {K : PySem.W.Frag} {mg : Str → Option Value} {base : Heap} {A : Around} {outer : List Env} {s : Shared} {H : Hp} (e : Env0 P w K mg base A outer s H) (C : Addr) (us : List Value) (kw : List (Str × Value)) :
    Env0 P w K mg base (A.under (.builtin "type.__call__" ⟨.ref C :: us, kw⟩)) outer s H := ⟨by first | exact e.frames | (simpa [Around.under, Code.envs, Code.isFrame, pushEnvs] using e.frames), e.mod, e.bs, e.bsz, e.funs, e.frf, e.hok, e.bare⟩
theorem Env0.in1 {P : Program} {w : World} {K : PySem.W.Frag} {mg : Str → Option Value} {base : Heap} {A : Around} {outer : List Env} {s : Shared} {H : Hp} (e : Env0 P w K mg base A outer s H) :
    Env0 P w K mg base A.in1 outer s H := ⟨e.frames, e.mod, e.bs, e.bsz, e.funs, e.frf, e.hok, e.bare⟩
section
variable {X : Cx} {pins : List (Addr × Obj)} {σ : St} {H : Hp} {s s' : Shared}
theorem Inv.env0 (I : Inv X pins σ H s) : Env0 X.prog X.w X.K X.mg X.base X.A X.stack s H :=
  ⟨I.ok.frames, I.ok.mod, I.bs, Nat.le_trans I.ok.bsz I.sz, I.stack, I.stkFree, I.hok, I.bare⟩
theorem Inv.after {Q : VK} {u : Value} (I : Inv X pins σ H s) (h : CE X.stack X.prog X.w H s Q u s') : EP X pins σ Q u s' := by
  obtain ⟨v, H', os, bare, un, hok, r, q⟩ := h
  obtain ⟨hh, g, d, t, os'⟩ := s'
  obtain rfl : os' = s.os := os
  exact ⟨v, H', I.call (h' := hh) (g' := g) (d' := d) (t' := t) (ch := []) un hok bare (fun b z => absurd z (by simp)), r, q⟩
end
def tCall (sp : Sp) (dvs : List V) (E : XK) (t : TA) : TE := fun σ H Q => t σ H fun vs H1 => sp (vs ++ dvs) H1 Q E
def tMake (C : Addr) (sp : Sp) (dvs : List V) (E : XK) (t : TA) : TE := fun σ H Q => t σ H fun vs H1 => ∀ x dx, H1 x = none → H1 dx = none → dx ≠ x →
  sp (.ref x :: (vs ++ dvs)) (upd (upd H1 dx (.own x)) x (.ins C dx [])) (fun v H2 => v = .non ∧ Q (.ref x) H2) E
def Binds (K : PySem.W.Frag) (fd : FuncData) (ps : List Str) (ds : List Value) : Prop :=
  ∀ (s : Shared) (us : List Value), K.In s.heap → (us ++ ds).length = ps.length → BindsTo s fd ⟨us, []⟩ (ps.zip (us ++ ds))
theorem Binds.all {K : PySem.W.Frag} {fd : FuncData} {ps : List Str} (h : ∀ us : List Value, us.length = ps.length → bindArgs fd ⟨us, []⟩ = pure (ps.zip us)) : Binds K fd ps [] := fun s us _ hl => by
  rw [List.append_nil] at hl ⊢
  exact .of_eq (h us hl)
def Passes (CX : CXT) (X : Cx) (E : XK) : Prop := ∀ (pins : List (Addr × Obj)) (σ : St) (H : Hp) (s : Shared) (e : Value) (s' : Shared), Inv X pins σ H s → CX X.stack H s E e s' → X.xe e s'
section
variable {X : Cx} {CX : CXT} {k : Nat} {f C : Addr} {fd : FuncData} {ps : List Str} {sp : Sp} {dvs : List V} {ds : List Value} {E : XK} {x m : Str} {p pos apos : Pos} {e o : Expr} {es : List Expr} {ta : TE} {t : TA}
theorem run_fn {pins : List (Addr × Obj)} {σ : St} {H : Hp} {s : Shared} {Q : VK} {us : List Value} {vs : List V} (F : FnOk X.prog X.w X.K X.mg X.base CX k f fd ps sp) (hr : Room k X.A) (hb : Binds X.K fd ps ds) (hd : Vals dvs ds) (hx : Passes CX X E)
    (I : Inv X pins σ H s) (r : Vals vs us) (h : sp (vs ++ dvs) H Q E) : wpAny (model X.prog X.w) X.A (call (.ref f) us) (EP X pins σ Q) X.xe s := by
  have r2 : Vals (vs ++ dvs) (us ++ ds) := r.append hd
  have hl : (us ++ ds).length = ps.length := by rw [← r2.length]; exact F.len _ _ _ _ h
  refine wpAny_call (codeAny_mono (F.run X.A X.stack s H ⟨us, []⟩ (us ++ ds) (vs ++ dvs) Q E hr I.env0 (hb s us I.kIn hl) r2 h) fun r s' hq => ?_)
  cases r with
  | error e => exact hx pins σ H s e s' I hq
  | ok fl =>
    cases fl with
    | ret u => exact I.after hq
    | next => exact False.elim hq
    | brk => exact False.elim hq
    | cont => exact False.elim hq
theorem pe_call (F : FnOk X.prog X.w X.K X.mg X.base CX k f fd ps sp) (hr : Room k X.A) (hg : Gl X x) (hm : X.mg x = some (.ref f)) (hk : PySem.W.keepIn X.K (.ref f) = true) (hb : Binds X.K fd ps ds) (hd : Vals dvs ds) (hx : Passes CX X E)
    (ha : PA X (e :: es) t) (hdb : (x == ("__debug__" : Str)) = false := by decide) (he : starEach (e :: es) X.env = (false, eval e X.env) :: starEach es X.env := by rfl) (hpl : (backTo pos (starEach es X.env)).any (·.1) = false := by rfl) :
    PE X (.Call (.Name x p) (e :: es) [] pos) (tCall sp dvs E t) := by
  intro pins s σ H Q I h
  refine wpAny_Call_Name_kw (ld_glob I hg hm ?_ hdb)
  refine PySem.W.callWith_K (h₀ := X.base) I.ok.mod.kin hk (thn (ha pos pins s σ H _ I h) fun us s1 ⟨vs, H1, I1, r, q⟩ => ⟨I1.kIn, ?_⟩) he hpl
  exact run_fn F hr hb hd hx I1 r q
structure Mk (K : PySem.W.Frag) (C f : Addr) : Prop where
  makes : PySem.W.makesIn K C = true
  init : PySem.W.findIn K (.ref C) "__init__" = some (some (.ref f))
  fn : PySem.W.isFn K (.ref f) = true
  kp : PySem.W.keepIn K (.ref C) = true
theorem run_make {pins : List (Addr × Obj)} {σ : St} {H : Hp} {s : Shared} {Q : VK} {us : List Value} {vs : List V} (M : Mk X.K C f) (F : FnOk X.prog X.w X.K X.mg X.base CX k f fd ps sp) (hr : Room (k + 1) X.A) (hb : Binds X.K fd ps ds) (hd : Vals dvs ds)
    (hx : Passes CX X E) (I : Inv X pins σ H s) (r : Vals vs us)
    (h : ∀ x dx, H x = none → H dx = none → dx ≠ x → sp (.ref x :: (vs ++ dvs)) (upd (upd H dx (.own x)) x (.ins C dx [])) (fun v H2 => v = .non ∧ Q (.ref x) H2) E) :
    wpAny (model X.prog X.w) X.A (call (.ref C) us) (EP X pins σ Q) X.xe s := by
  have hq := h (s.heap.objs.size + 1) s.heap.objs.size (I.hok.fresh (Nat.le_succ _)) (I.hok.fresh (Nat.le_refl _)) (Nat.ne_of_lt (Nat.lt_succ_self _))
  have I2 := Inv.made (C := C) I
  have r2 : Vals (V.ref (s.heap.objs.size + 1) :: (vs ++ dvs)) (Value.ref (s.heap.objs.size + 1) :: (us ++ ds)) := .cons rfl (r.append hd)
  have hl : (Value.ref (s.heap.objs.size + 1) :: us ++ ds).length = ps.length := by
    have e := r2.length
    rw [F.len _ _ _ _ hq] at e
    exact e.symm
  refine wpAny_call (make_map (f := f) I.kIn M.makes M.init (beq_iff_eq.mp M.fn) (codeAny_mono (F.run _ X.stack _ _ ⟨Value.ref (s.heap.objs.size + 1) :: us, []⟩ (Value.ref (s.heap.objs.size + 1) :: (us ++ ds)) _ _ E (hr.make C us [])
    (I2.env0.make C us []) (hb _ (Value.ref (s.heap.objs.size + 1) :: us) I2.kIn hl) r2 hq) fun r s' hq' => ?_))
  cases r with
  | error e => exact hx pins σ _ _ e s' I2 hq'
  | ok fl =>
    cases fl with
    | ret u =>
      obtain ⟨v, H', I3, rv, ev, q3⟩ := I2.after hq'
      subst ev
      exact ⟨rv, ⟨V.ref (s.heap.objs.size + 1), H', I3, rfl, q3⟩⟩
    | next => exact False.elim hq'
    | brk => exact False.elim hq'
    | cont => exact False.elim hq'
theorem pe_make (M : Mk X.K C f) (F : FnOk X.prog X.w X.K X.mg X.base CX k f fd ps sp) (hr : Room (k + 1) X.A) (hg : Gl X x) (hm : X.mg x = some (.ref C)) (hb : Binds X.K fd ps ds) (hd : Vals dvs ds) (hx : Passes CX X E)
    (ha : PA X (e :: es) t) (hdb : (x == ("__debug__" : Str)) = false := by decide) (he : starEach (e :: es) X.env = (false, eval e X.env) :: starEach es X.env := by rfl) (hpl : (backTo pos (starEach es X.env)).any (·.1) = false := by rfl) :
    PE X (.Call (.Name x p) (e :: es) [] pos) (tMake C sp dvs E t) := by
  intro pins s σ H Q I h
  refine wpAny_Call_Name_kw (ld_glob I hg hm ?_ hdb)
  refine PySem.W.callWith_K (h₀ := X.base) I.ok.mod.kin M.kp (thn (ha pos pins s σ H _ I h) fun us s1 ⟨vs, H1, I1, r, q⟩ => ⟨I1.kIn, ?_⟩) he hpl
  exact run_make M F hr hb hd hx I1 r q
end
section
variable {X : Cx} {CX : CXT} {k : Nat} {f C : Addr} {fd : FuncData} {ps ks : List Str} {sp : Sp} {E : XK} {x m : Str} {p pos apos kpos : Pos} {e o : Expr} {es : List Expr} {kws : List Keyword} {te ta : TE} {t tk : TA} {nm : Option Str}
structure KBinds (K : PySem.W.Frag) (fd : FuncData) (ps ks : List Str) (g : List Value → List Value → List Value) (gV : List V → List V → List V) : Prop where
  to : ∀ (s : Shared) (us ws : List Value), K.In s.heap → (g us ws).length = ps.length → BindsTo s fd ⟨us, ks.zip ws⟩ (ps.zip (g us ws))
  rel : ∀ {vs : List V} {us : List Value} {zs : List V} {ws : List Value}, Vals vs us → Vals zs ws → Vals (gV vs zs) (g us ws)
variable {g : List Value → List Value → List Value} {gV : List V → List V → List V}
end
structure FnScope (N P : List Str) (sc : Scope) : Prop where
  kind : sc.kind = .function
  co : sc.isCoroutine = false
  gen : sc.isGenerator = false
  nd : N.Nodup
  pre : N.take P.length = P
  par : ∀ x ∈ P, sc.names.lookup x = some .local ∨ sc.names.lookup x = some .cell
  nofree : ∀ y ∈ sc.names, y.2 ≠ .free
theorem bindL_out {kindOf : Str → Option NameKind} {x : Str} : ∀ {binds : List (Str × Value)} {m : Str → Option Value}, (∀ v, (x, v) ∉ binds) → bindL kindOf binds m x = m x
  | [], _, _ => rfl
  | (n, v) :: r, m, h => by
    unfold bindL
    rw [bindL_out fun w hw => h w (List.mem_cons_of_mem _ hw)]
    split
    · have : x ≠ n := by rintro rfl; exact h v List.mem_cons_self
      simp [this]
    · rfl
theorem bindC_out {kindOf : Str → Option NameKind} {x : Str} : ∀ {binds : List (Str × Value)} {m : Str → Option Value}, (∀ v, (x, v) ∉ binds) → bindC kindOf binds m x = m x
  | [], _, _ => rfl
  | (n, v) :: r, m, h => by
    unfold bindC
    rw [bindC_out fun w hw => h w (List.mem_cons_of_mem _ hw)]
    split
    · rfl
    · have : x ≠ n := by rintro rfl; exact h v List.mem_cons_self
      simp [this]
theorem bindL_get {kindOf : Str → Option NameKind} {x : Str} {v : Value} : ∀ {P : List Str} {vs : List Value} {i : Nat} {m : Str → Option Value}, P.Nodup → P[i]? = some x → vs[i]? = some v → kindOf x = some .local →
    bindL kindOf (P.zip vs) m x = some v
  | [], _, _, _, _, h, _, _ => by simp at h
  | _ :: _, [], _, _, _, _, h, _ => by simp at h
  | p :: P, w :: vs, 0, m, nd, h1, h2, hk => by
    simp at h1 h2; subst h1; subst h2
    show bindL kindOf ((p, w) :: P.zip vs) m p = _
    unfold bindL
    rw [bindL_out fun v hv => (List.nodup_cons.mp nd).1 (List.of_mem_zip hv).1, if_pos hk]
    simp
  | p :: P, w :: vs, i + 1, m, nd, h1, h2, hk => by
    show bindL kindOf ((p, w) :: P.zip vs) m x = _
    unfold bindL
    exact bindL_get (i := i) (List.nodup_cons.mp nd).2 (by simpa using h1) (by simpa using h2) hk
theorem bindC_get {kindOf : Str → Option NameKind} {x : Str} {v : Value} : ∀ {P : List Str} {vs : List Value} {i : Nat} {m : Str → Option Value}, P.Nodup → P[i]? = some x → vs[i]? = some v → kindOf x ≠ some .local →
    bindC kindOf (P.zip vs) m x = some v
  | [], _, _, _, _, h, _, _ => by simp at h
  | _ :: _, [], _, _, _, _, h, _ => by simp at h
  | p :: P, w :: vs, 0, m, nd, h1, h2, hk => by
    simp at h1 h2; subst h1; subst h2
    show bindC kindOf ((p, w) :: P.zip vs) m p = _
    unfold bindC
    rw [bindC_out fun v hv => (List.nodup_cons.mp nd).1 (List.of_mem_zip hv).1, if_neg hk]
    simp
  | p :: P, w :: vs, i + 1, m, nd, h1, h2, hk => by
    show bindC kindOf ((p, w) :: P.zip vs) m x = _
    unfold bindC
    exact bindC_get (i := i) (List.nodup_cons.mp nd).2 (by simpa using h1) (by simpa using h2) hk
def start (N : List Str) (vs : List V) : St := vs.map some ++ List.replicate (N.length - vs.length) none
def cxOf (CX : CXT) (P : Program) (w : World) (K : PySem.W.Frag) (mg : Str → Option Value) (base : Heap) (N : List Str) (qual : Str) (scope : Scope) (f : Addr) (cd : Value) (A : Around) (outer : List Env) (s : Shared) (H : Hp) (E : XK) : Cx where
  prog := P
  w := w
  K := K
  mg := mg
  base := base
  A := A.deeper (envOfC qual scope s.heap.objs.size f cd)
  N := N
  s_0 := s
  H_0 := H
  env := envOfC qual scope s.heap.objs.size f cd
  outer := outer
  stack := envOfC qual scope s.heap.objs.size f cd :: outer
  ex := []
  calm := true
  fn := fun _ => true
  pn := []
  xe := fun e s' => wpAny (model P w) (A.deeper (envOfC qual scope s.heap.objs.size f cd)) (leaving (envOfC qual scope s.heap.objs.size f cd) e) (fun _ s'' => CX outer H s E e s'') (fun e' s'' => CX outer H s E e' s'') s'
theorem cell_has {sc : Scope} {n : Nat} {x : Str} (h : sc.names.lookup x = some .cell) : ∃ c, (cellsFrom n sc.names []).lookup x = some c := by
  have q := PySem.W.cellsFrom_some sc.names n [] (.inl h)
  exact Option.isSome_iff_exists.mp q
theorem inv_start {CX : CXT} {P : Program} {w : World} {K : PySem.W.Frag} {mg : Str → Option Value} {base : Heap} {N ps : List Str} {qual : Str} {scope : Scope} {f : Addr} {cd : Value} {A : Around} {outer : List Env} {s s1 : Shared} {H : Hp} {E : XK} {us : List Value} {vs : List V}
    (S : FnScope N ps scope) (hd : A.handled = none) (e0 : Env0 P w K mg base A outer s H) (hl : vs.length = ps.length) (r : Vals vs us)
    (x : InCallC s s.heap.objs.size (bindL (envOfC qual scope s.heap.objs.size f cd).kindOf (ps.zip us) fun _ => none) (cellsFrom (s.heap.objs.size + 1) scope.names []) (bindC (envOfC qual scope s.heap.objs.size f cd).kindOf (ps.zip us) fun _ => none) s1) :
    Inv (cxOf CX P w K mg base N qual scope f cd A outer s H E) [] (start N vs) H s1 := by
  have hpl : ps.length ≤ N.length := by have := congrArg List.length S.pre; rw [List.length_take] at this; omega
  obtain ⟨h1, tk, rfl, hk⟩ := x.done
  have noA : ∀ b : Addr, b ∉ (cxOf CX P w K mg base N qual scope f cd A outer s H E).ex := fun b z => absurd (show b ∈ ([] : List Addr) from z) (by simp)
  refine ⟨⟨e0.mod, S.kind, rfl, rfl, Nat.le_refl _, fun y z c h1 h2 => ?_, fun y hy => ?_, fun y c _ h => ?_, fun _ => hd, Around.frames_deeper e0.frames, .inr ⟨rfl, rfl⟩, fun b z => absurd z (noA b), e0.bs, e0.bsz, fun b _ _ => noA b, fun b z => absurd z (noA b), e0.funs, e0.frf⟩,
    rfl, e0.bare, Un.kept hk, ⟨_, x.toInCall.ns, fun i y v h1 h2 h3 => ?_⟩, fun y c h => ⟨_, x.cell y c h⟩, e0.hok.fresh (Nat.le_refl _), fun y c h => ?_, fun p hp => absurd (show p ∈ ([] : List (Addr × Obj)) from hp) (by simp), e0.hok.kept hk, ?_⟩
  · exact name_of_addr x.apart (PySem.mem_of_lookup h1) (PySem.mem_of_lookup h2)
  · have hy : scope.names.lookup y = some .cell ∨ scope.names.lookup y = some .free := hy
    rcases hy with hy | hy
    · exact cell_has hy
    · exact absurd rfl (S.nofree _ (PySem.mem_of_lookup hy))
  · exact Nat.le_of_lt (x.above y c (PySem.mem_of_lookup h))
  · have hi : i < vs.length := by
      unfold start at h2
      by_cases hi : i < vs.length
      · exact hi
      · rw [List.getElem?_append_right (by simpa using hi)] at h2
        rw [List.getElem?_replicate] at h2
        split at h2 <;> cases h2
    have ha : vs[i]? = some v := by
      unfold start at h2
      rw [List.getElem?_append_left (by simpa using hi), List.getElem?_map] at h2
      cases e : vs[i]? with
      | none => rw [e] at h2; cases h2
      | some a => rw [e] at h2; cases h2; rfl
    obtain ⟨u, hu, rv⟩ := r.get ha
    have hp : ps[i]? = some y := by
      rw [← S.pre, List.getElem?_take_of_lt (by omega)]; exact h1
    have ndP : ps.Nodup := by rw [← S.pre]; exact S.nd.sublist (List.take_sublist _ _)
    refine ⟨u, rv, ?_⟩
    rcases S.par y (List.mem_of_getElem? hp) with k | k
    · exact .inl ⟨k, bindL_get ndP hp hu k⟩
    · obtain ⟨c, e⟩ := cell_has (n := s.heap.objs.size + 1) k
      refine .inr ⟨.inl k, c, e, ?_⟩
      have q := x.cell y c e
      rw [bindC_get ndP hp hu (by show scope.names.lookup y ≠ _; rw [k]; decide)] at q
      exact q
  · exact e0.hok.fresh (Nat.le_of_lt (x.above y c (PySem.mem_of_lookup h)))
  · unfold start
    show _ = N.length
    rw [List.length_append, List.length_map, List.length_replicate]
    omega
theorem fn_of {CX : CXT} {P : Program} {w : World} {K : PySem.W.Frag} {mg : Str → Option Value} {base : Heap} {k : Nat} {f : Addr} {name qual : Str} {params : Arguments} {body : List Stmt} {scope : Scope} {dV kV doc pm cdv ct oc : Value} {an od : Option Addr}
    {osl : Array (Option Value)} {N ps : List Str} {sp : Sp} (lk : K.lookup f = some ⟨oc, od, .func (PySem.W.fnOf name qual params body scope dV kV doc pm an cdv ct), osl⟩) (hcd : PySem.W.codeIn K cdv qual = true) (S : FnScope N ps scope)
    (len : ∀ vs H Q E, sp vs H Q E → vs.length = ps.length)
    (hbody : ∀ (A : Around) (outer : List Env) (s : Shared) (H : Hp) (vs : List V) (Q : VK) (E : XK), Room k (A.deeper (envOfC qual scope s.heap.objs.size f cdv)) → sp vs H Q E →
      ∃ t, PSs (cxOf CX P w K mg base N qual scope f cdv A outer s H E) body t ∧ t { nx := fun _ H' => Q .non H', rt := Q } (start N vs) H) :
    FnOk P w K mg base CX (k + 1) f (PySem.W.fnOf name qual params body scope dV kV doc pm an cdv ct) ps sp := by
  refine ⟨len, fun A outer s H args us vs Q E hr e0 hb r hsp => ?_⟩
  have hl := len _ _ _ _ hsp
  have KX : K.In s.heap := e0.mod.kin.keeps fun b o e => (e0.bs b o e).1
  have lim : s.heap.NoLimit := e0.mod.nolimit.keeps fun b o e => (e0.bs b o e).1
  have hkind : ∀ y ∈ ps.zip us, scope.names.lookup y.1 = some .local ∨ (scope.names.lookup y.1 = some .cell ∧ ((cellsFrom (s.heap.objs.size + 1) scope.names []).lookup y.1).isSome = true) := fun ⟨n, v⟩ hy => by
    rcases S.par n (List.of_mem_zip hy).1 with q | q
    · exact .inl q
    · exact .inr ⟨q, PySem.W.cellsFrom_some _ _ _ (.inl q)⟩
  refine codeAny_call_function hr.depth (KX _ _ lk) rfl S.co S.gen rfl (PySem.W.codeRec_of KX hcd) (hb _ _ _ _ ?_)
  refine wpAny_newFunctionEnv_cells S.kind hkind fun env he s1 x => ?_
  subst he
  refine ⟨lim.keeps x.toInCall.keep, codeAny_func ?_⟩
  obtain ⟨t, ht, hq⟩ := hbody A outer s H vs Q E (hr.deeper _) hsp
  have I : Inv (cxOf CX P w K mg base N qual scope f cdv A outer s H E) [] (start N vs) H s1 := inv_start S hr.hd e0 hl r x
  refine wpAny_mono (ht [] s1 (start N vs) H _ I hq) (fun fl s' hs => ?_) fun e s' hs => hs
  have fin : ∀ {σ' : St} {H' : Hp} {v : V} {u : Value}, Inv (cxOf CX P w K mg base N qual scope f cdv A outer s H E) [] σ' H' s' → RelV v u → Q v H' → CE outer P w H s Q u s' :=
    fun {σ' H' v u} J rv q => ⟨v, H', J.os, J.bare, J.base, J.hok, rv, q⟩
  cases fl with
  | ret u =>
    obtain ⟨v, σ', H', J, rv, q⟩ := hs
    exact fin J rv q
  | next =>
    obtain ⟨σ', H', J, q⟩ := hs
    exact fin (v := V.non) (u := Value.none) J rfl q
  | brk =>
    obtain ⟨_, _, _, q⟩ := hs
    exact False.elim q
  | cont =>
    obtain ⟨_, _, _, q⟩ := hs
    exact False.elim q
end L2
namespace L2
open PySem PySem.Spec PyProof.Rows
section
variable {X : Cx} {x : Str} {p pos : Pos} {e : Expr} {es : List Expr} {t : TA} {id T : String} {r : List V → Hp → VK → Prop}
def tCB (r : List V → Hp → VK → Prop) (t : TA) : TE := fun σ H Q => t σ H fun vs H1 => r vs H1 Q
theorem pe_callB (hc : CallR X (.builtin id) r) (hg : Gl X x) (hm : X.mg x = none) (hv : bootBuiltins x = some (.builtin id)) (ha : PA X (e :: es) t) (hn : x ≠ "__name__" := by decide) (hdb : (x == ("__debug__" : Str)) = false := by decide)
    (he : starEach (e :: es) X.env = (false, eval e X.env) :: starEach es X.env := by rfl) (hpl : (backTo pos (starEach es X.env)).any (·.1) = false := by rfl) : PE X (.Call (.Name x p) (e :: es) [] pos) (tCB r t) := by
  intro pins s σ H Q I h
  refine wpAny_Call_Name_kw (ld_blt I hg hm hv ?_ hn hdb)
  exact PyProof.Rows.callWith_builtin1 (thn (ha pos pins s σ H _ I h) fun us s1 ⟨vs, H1, I1, r1, q1⟩ => hc pins s1 σ H1 vs us Q I1 r1 q1) he hpl
theorem pe_callTy (hc : CallR X (.type T) r) (hg : Gl X x) (hm : X.mg x = none) (hv : bootBuiltins x = some (.type T)) (ha : PA X (e :: es) t) (hn : x ≠ "__name__" := by decide) (hdb : (x == ("__debug__" : Str)) = false := by decide)
    (he : starEach (e :: es) X.env = (false, eval e X.env) :: starEach es X.env := by rfl) (hpl : (backTo pos (starEach es X.env)).any (·.1) = false := by rfl) : PE X (.Call (.Name x p) (e :: es) [] pos) (tCB r t) := by
  intro pins s σ H Q I h
  refine wpAny_Call_Name_kw (ld_blt I hg hm hv ?_ hn hdb)
  exact PyProof.Rows.callWith_type1 (thn (ha pos pins s σ H _ I h) fun us s1 ⟨vs, H1, I1, r1, q1⟩ => hc pins s1 σ H1 vs us Q I1 r1 q1) he hpl
end
end L2
namespace HT
open PySem PyProof.Rows
def lexLt : List Int → List Int → Bool
  | [], [] => false
  | [], _ :: _ => true
  | _ :: _, [] => false
  | x :: xs, y :: ys => if x = y then lexLt xs ys else decide (x < y)
theorem lexLt_cons (x y : Int) (xs ys : List Int) : lexLt (x :: xs) (y :: ys) = if x = y then lexLt xs ys else decide (x < y) := rfl
theorem lexLt_nil_nil : lexLt [] [] = false := rfl
theorem lexLt_nil_cons (y : Int) (ys : List Int) : lexLt [] (y :: ys) = true := rfl
theorem lexLt_cons_nil (x : Int) (xs : List Int) : lexLt (x :: xs) [] = false := rfl
theorem eqAt_int (A : Around) (s : Shared) (a : Int) (t : Tok) (c : Int) (u : Tok) : ∃ e, SeqAt.EqAt A s (.int a t) (.int c u) e ∧ (e = true ↔ a = c) :=
  ⟨(a == c), SeqAt.EqAt.int_int a t c u, by simp⟩
theorem rcLt_int (A : Around) (s : Shared) (a : Int) (t : Tok) (c : Int) (u : Tok) (prog : Program) (w : World) (E : Value → Shared → Prop) (Q : Value → Shared → Prop) (h : Q (.bool (decide (a < c))) s) :
    wpAny (model prog w) A (richCompare .Lt (.int a t) (.int c u)) Q E s :=
  (PyProof.Rows.lt_int h : wpAny (model prog w) A (compareOp .Lt (.int a t) (.int c u)) Q E s)
section
open PySem.SeqAt
open PySem.AutoSeq1 (wpAny_loadPart')
open PySem.MeetsSeq PySem.MeetsSeq2 PySem.MeetsSeq3
theorem tuple_lt_ints (l b : Addr) (items items2 : Array Value) (n n2 : Nat) (dd dd2 : Option Addr) (sl sl2 : Array (Option Value)) (ns ms : List Int) (hi : IntsAre items.toList ns) (hj : IntsAre items2.toList ms) :
    Meets (Builtin.«tuple.__lt__» ⟨[.ref l, .ref b], []⟩)
      (fun _ R s => s.heap.get? l = some { cls := .type "tuple", dict := dd, data := .seq items n, slots := sl } ∧ s.heap.get? b = some { cls := .type "tuple", dict := dd2, data := .seq items2 n2, slots := sl2 } ∧
        R (.ok (.ret (.bool (lexLt ns ms)))) s) :=
  .of_wp fun prog w A R s h => by
    obtain ⟨hp, g, d, tk, os⟩ := s; obtain ⟨hl, hb, h⟩ := h
    have f2 := AutoSeq1.sub_tuple_tuple
    have z1 : items.size = ns.length := by rw [← hi.length]; simp
    have z2 : items2.size = ms.length := by rw [← hj.length]; simp
    wp_walk using wpAny_loadPart' hl, wpAny_loadPart' hb, wpAny_forIn_list _ (fun rest b s' => b.1 = none ∧ s' = ⟨hp, g, d, tk, os⟩ ∧ ∃ (vs ws : List Value) (ns' ms' : List Int), rest = vs.zip ws ∧
      IntsAre vs ns' ∧ IntsAre ws ms' ∧ ns'.length + items2.size = ms'.length + items.size ∧ R (.ok (.ret (.bool (lexLt ns' ms')))) ⟨hp, g, d, tk, os⟩) _
    case turn =>
      rintro ⟨y, x⟩ rest b s' ⟨hb', rfl, vs, ws, ns', ms', hz, hvi, hwi, hlen, hR⟩
      cases hvi with
      | nil => rw [List.zip_nil_left] at hz; cases hz
      | cons a t hvi' =>
        cases hwi with
        | nil => rw [List.zip_nil_right] at hz; cases hz
        | cons c u hwi' =>
          rw [List.zip_cons_cons] at hz
          injection hz with hyx hrest
          injection hyx with hy hx
          subst hy hx
          rw [lexLt_cons] at hR
          simp only [List.length_cons] at hlen
          obtain ⟨e, he, hiff⟩ := eqAt_int A.in1 ⟨hp, g, d, tk, os⟩ a t c u
          refine wpAny_bind (he prog w _ _ ?_)
          cases e with
          | true =>
            rw [if_pos (hiff.mp rfl)] at hR
            wp_walk
            exact ⟨rfl, rfl, _, _, _, _, hrest, hvi', hwi', by omega, hR⟩
          | false =>
            rw [if_neg (fun q => absurd (hiff.mpr q) Bool.false_ne_true)] at hR
            have hri := rcLt_int A.in1 ⟨hp, g, d, tk, os⟩ a t c u prog w
            wp_walk using hri
            exact ⟨_, rfl, by simpa using hR⟩
    case fin =>
      rintro ⟨b1, b2⟩ s' ⟨hb', rfl, vs, ws, ns', ms', hz, hvi, hwi, hlen, hR⟩
      simp only at hb'
      subst hb'
      have hv : lexLt ns' ms' = decide (items.size < items2.size) := by
        cases hvi with
        | nil =>
          cases hwi with
          | nil =>
            simp only [List.length_nil] at hlen
            rw [lexLt_nil_nil]
            exact (decide_eq_false (by omega)).symm
          | cons c u hw =>
            simp only [List.length_nil, List.length_cons] at hlen
            rw [lexLt_nil_cons]
            exact (decide_eq_true (by omega)).symm
        | cons a t hv =>
          cases hwi with
          | nil =>
            simp only [List.length_nil, List.length_cons] at hlen
            rw [lexLt_cons_nil]
            exact (decide_eq_false (by omega)).symm
          | cons c u hw =>
            rw [List.zip_cons_cons] at hz
            cases hz
      rw [hv] at hR
      wp_walk
      exact ⟨_, rfl, by simpa [Builtin.Tuple.tupleCompareSizes] using hR⟩
    case h =>
      exact ⟨rfl, rfl, items.toList, items2.toList, ns, ms, rfl, hi, hj, by omega, h⟩
end
section
variable {prog : Program} {w : World} {A : Around} {E : Value → Shared → Prop} {s : Shared}
theorem lt_tupInts {l b : Addr} {items items2 : Array Value} {ns ms : List Int} {Q : Value → Shared → Prop} (hl : IsTup s.heap l items) (hb : IsTup s.heap b items2) (hi : IntsAre items.toList ns) (hj : IntsAre items2.toList ms)
    (hu : A.units < cLine) (h : Q (.bool (lexLt ns ms)) s) : wpAny (model prog w) A (compareOp .Lt (.ref l) (.ref b)) Q E s := by
  obtain ⟨⟨cls, dd, data, sl⟩, ho, hc, n, hd⟩ := id hl
  obtain ⟨⟨cls2, dd2, data2, sl2⟩, ho2, hc2, n2, hd2⟩ := id hb
  simp only at hc hd hc2 hd2
  subst hc hd hc2 hd2
  exact richCompare_meets_room (op := .Lt) ⟨_, ho, rfl⟩ ⟨_, ho2, rfl⟩ PySem.F.slot_tuple_lt PySem.F.entry_tuple_lt (PySem.F.args_tuple_lt_2 _ _) (tuple_lt_ints l b items items2 n n2 dd dd2 sl sl2 ns ms hi hj)
    ⟨ho, ho2, show Value.bool (lexLt ns ms) ≠ Value.notImplemented ∧ Q (.bool (lexLt ns ms)) s from ⟨(fun x => nomatch x), h⟩⟩ hu
def sIx (n d : Nat) : Option Int → Nat
  | none => d
  | some v => if v < 0 then (v + (n : Int)).toNat else min v.toNat n
theorem sIx_nat (n d k : Nat) : sIx n d (some (k : Int)) = min k n := by
  show (if (k : Int) < 0 then ((k : Int) + (n : Int)).toNat else min (k : Int).toNat n) = min k n
  rw [if_neg (by omega), Int.toNat_natCast]
end
end HT
namespace L2
open PySem PySem.Spec PyProof.Rows
abbrev TO := St → Hp → (Option Int → Hp → Prop) → Prop
def PO (X : Cx) (e : Option Expr) (t : TO) : Prop :=
  ∀ (pins : List (Addr × Obj)) (s : Shared) (σ : St) (H : Hp) (Q : Option Int → Hp → Prop), Inv X pins σ H s → t σ H Q →
    wpAny (model X.prog X.w) X.A (evalPart e X.env) (fun u s' => ∃ o H', Inv X pins σ H' s' ∧ IsPart u o ∧ Q o H') X.xe s
def tNoPart : TO := fun _ H Q => Q none H
def tPart (t : TE) : TO := fun σ H Q => t σ H fun x H1 => ∃ i, x = .int i ∧ Q (some i) H1
theorem intsAre_of {ns : List Int} : ∀ {us : List Value}, Vals (ns.map V.int) us → IntsAre us ns := by
  induction ns with
  | nil => intro us r; rw [List.map_nil] at r; cases r; exact .nil
  | cons n ns ih =>
    intro us r
    rw [List.map_cons] at r
    cases r with
    | cons r1 r2 =>
      obtain ⟨t, e⟩ := r1
      subst e
      exact .cons n t (ih r2)
section
variable {X : Cx} {e : Expr} {te : TE} {lo hi : Option Expr} {tl th : TO} {pos p2 : Pos}
theorem po_none : PO X none tNoPart := by
  intro pins s σ H Q I h
  rw [evalPart_none]
  exact wpAny_pure ⟨none, H, I, .none, h⟩
theorem po_some (h : PE X e te) : PO X (some e) (tPart te) := by
  intro pins s σ H Q I hw
  rw [evalPart_some]
  refine thn (h pins s σ H _ I hw) fun u s1 ⟨x, H1, I1, r1, q1⟩ => ?_
  obtain ⟨i, rfl, q⟩ := q1
  obtain ⟨t, rfl⟩ := r1
  exact ⟨some i, H1, I1, .int i t, q⟩
def SlR (X : Cx) (r : V → Option Int → Option Int → Hp → VK → Prop) : Prop :=
  ∀ (pins : List (Addr × Obj)) (s : Shared) (σ : St) (H : Hp) (x : V) (v vl vu : Value) (lo hi : Option Int) (sl : Addr) (Q : VK), Inv X pins σ H s → RelV x v → s.heap.IsSliceOf sl vl vu .none → IsPart vl lo → IsPart vu hi → r x lo hi H Q →
    ∃ T id, typeLookup (.type T) "__getitem__" = pure (some (.builtin id)) ∧ s.TypeIs v T ∧ wpAny (model X.prog X.w) X.A (getItem v (.ref sl)) (EP X pins σ Q) X.xe s
theorem SlR.or {r r' : V → Option Int → Option Int → Hp → VK → Prop} (h : SlR X r) (h' : SlR X r') : SlR X (fun x lo hi H Q => r x lo hi H Q ∨ r' x lo hi H Q) := by
  intro pins s σ H x v vl vu lo hi sl Q I rx hs pl pu q
  rcases q with q | q
  · exact h pins s σ H x v vl vu lo hi sl Q I rx hs pl pu q
  · exact h' pins s σ H x v vl vu lo hi sl Q I rx hs pl pu q
def tSl (r : V → Option Int → Option Int → Hp → VK → Prop) (te : TE) (tl th : TO) : TE := fun σ H Q => te σ H fun x H1 => tl σ H1 fun l H2 => th σ H2 fun u H3 => r x l u H3 Q
theorem pe_slice {r : V → Option Int → Option Int → Hp → VK → Prop} (hr : SlR X r) (he : PE X e te) (hl : PO X lo tl) (hu : PO X hi th) : PE X (.Subscript e (.Slice lo hi none p2) pos) (tSl r te tl th) := by
  intro pins s σ H Q I h
  refine Subscript_ (thn (he pins s σ H _ I h) fun v s1 ⟨x, H1, I1, r1, q1⟩ => ?_)
  refine wpAny_Slice (thn (hl pins s1 σ H1 _ I1 q1) fun vl s2 ⟨l, H2, I2, pl, q2⟩ => thn (hu pins s2 σ H2 _ I2 q2) fun vu s3 ⟨u, H3, I3, pu, q3⟩ => ?_)
  rw [evalPart_none]
  refine wpAny_pure ?_
  have I4 : Inv X pins σ H3 { s3 with heap := s3.heap.push { cls := .type "slice", data := .fields #[vl, vu, .none] } } := I3.kept (t' := s3.toks) fun b ob q => Heap.get?_push_of_some _ q
  obtain ⟨T, id, hT, ht, hg⟩ := hr pins { s3 with heap := s3.heap.push { cls := .type "slice", data := .fields #[vl, vu, .none] } } σ H3 x v vl vu l u s3.heap.objs.size Q I4 r1 (Heap.IsSliceOf.new ..) pl pu q3
  show wpAny (model X.prog X.w) X.A (subscriptTail e (.Slice lo hi none p2) v (.ref s3.heap.objs.size)) (EP X pins σ Q) X.xe { s3 with heap := s3.heap.push { cls := .type "slice", data := .fields #[vl, vu, .none] } }
  exact tail_any (ops := [.ref s3.heap.objs.size, v]) ht hT hg (by with_unfolding_all rfl)
def cutV (xs : List V) (lo hi : Option Int) : List V := (xs.drop (HT.sIx xs.length 0 lo)).take (HT.sIx xs.length xs.length hi - HT.sIx xs.length 0 lo)
theorem cutV_length (xs : List V) (lo hi : Option Int) : (cutV xs lo hi).length ≤ xs.length := by
  unfold cutV
  rw [List.length_take, List.length_drop]
  omega
end
end L2
namespace L2
open PySem PySem.Spec PyProof.Rows
def ixN (n : Nat) (i : Int) : Option Nat := if 0 ≤ i then (if i < n then some i.toNat else none) else if -(n : Int) ≤ i then some (i + n).toNat else none
def atI {α : Type} (xs : List α) (i : Int) : Option α := (ixN xs.length i).bind fun j => xs[j]?
theorem ixN_seq {n : Nat} {i : Int} {j : Nat} (h : ixN n i = some j) : seqIndex? i n = some j ∧ j < n ∧ -(n : Int) ≤ i ∧ i < n := by
  unfold ixN at h
  by_cases h0 : 0 ≤ i
  · rw [if_pos h0] at h
    by_cases h1 : i < n
    · rw [if_pos h1] at h
      have e : i.toNat = j := Option.some.inj h
      exact ⟨by rw [seqIndex_of h0 h1, e], by omega, by omega, h1⟩
    · rw [if_neg h1] at h; cases h
  · rw [if_neg h0] at h
    by_cases h1 : -(n : Int) ≤ i
    · rw [if_pos h1] at h
      have e : (i + n).toNat = j := Option.some.inj h
      exact ⟨by rw [seqIndex_neg (by omega) h1, e], by omega, h1, by omega⟩
    · rw [if_neg h1] at h; cases h
theorem atI_get {α : Type} {xs : List α} {i : Int} {v : α} (h : atI xs i = some v) : ∃ j, seqIndex? i xs.length = some j ∧ xs[j]? = some v ∧ j < xs.length ∧ -(xs.length : Int) ≤ i ∧ i < xs.length := by
  unfold atI at h
  cases e : ixN xs.length i with
  | none => rw [e] at h; cases h
  | some j =>
    rw [e] at h
    obtain ⟨h1, h2, h3, h4⟩ := ixN_seq e
    exact ⟨j, h1, h, h2, h3, h4⟩
theorem atI_nat {α : Type} {xs : List α} {j : Nat} {v : α} (h : xs[j]? = some v) : atI xs (j : Int) = some v := by
  have hj : j < xs.length := (List.getElem?_eq_some_iff.mp h).1
  have e : ixN xs.length (j : Int) = some j := by
    unfold ixN
    rw [if_pos (by omega), if_pos (by omega)]; simp
  unfold atI; rw [e]; exact h
theorem atI_last {α : Type} (xs : List α) (v : α) : atI (xs ++ [v]) (-1) = some v := by
  have hl : (xs ++ [v]).length = xs.length + 1 := by simp
  have e : ixN (xs ++ [v]).length (-1) = some xs.length := by
    unfold ixN
    rw [hl, if_neg (by decide), if_pos (by omega)]
    congr 1
    omega
  unfold atI
  rw [e]
  show (xs ++ [v])[xs.length]? = some v
  simp
def PlainIx (b : Expr) : Prop := ∀ o i, subscripted b false o i = operate [o, i] (getItem o i)
def IxR (X : Cx) (r : R2) : Prop :=
  ∀ (value slice : Expr) (pins : List (Addr × Obj)) (s : Shared) (σ : St) (H : Hp) (x y : V) (v u : Value) (Q : VK), Inv X pins σ H s → RelV x v → RelV y u → r x y H Q →
    subscripted slice false v u = operate [v, u] (getItem v u) → wpAny (model X.prog X.w) X.A (subscriptTail value slice v u) (EP X pins σ Q) X.xe s
def MtR (X : Cx) (id : String) (r : V → List V → Hp → VK → Prop) : Prop :=
  ∀ (pins : List (Addr × Obj)) (s : Shared) (σ : St) (H : Hp) (x : V) (xs : List V) (v : Value) (us : List Value) (Q : VK), Inv X pins σ H s → RelV x v → Vals xs us → r x xs H Q →
    wpAny (model X.prog X.w) X.A (call (.builtin id) (v :: us)) (EP X pins σ Q) X.xe s
section
variable {X : Cx} {a b : Expr} {ta tb : TE} {pos : Pos}
theorem IxR.or {r r' : R2} (h : IxR X r) (h' : IxR X r') : IxR X (fun x y H Q => r x y H Q ∨ r' x y H Q) := by
  intro value slice pins s σ H x y v u Q I rx ry q hs
  rcases q with q | q
  · exact h value slice pins s σ H x y v u Q I rx ry q hs
  · exact h' value slice pins s σ H x y v u Q I rx ry q hs
theorem MtR.or {id : String} {r r' : V → List V → Hp → VK → Prop} (h : MtR X id r) (h' : MtR X id r') : MtR X id (fun x xs H Q => r x xs H Q ∨ r' x xs H Q) := by
  intro pins s σ H x xs v us Q I rx rs q
  rcases q with q | q
  · exact h pins s σ H x xs v us Q I rx rs q
  · exact h' pins s σ H x xs v us Q I rx rs q
theorem pe_ix {r : R2} (hr : IxR X r) (ha : PE X a ta) (hb : PE X b tb) (hs : PlainIx b) : PE X (.Subscript a b pos) (tOp r ta tb) := by
  intro pins s σ H Q I h
  exact Subscript_ (binT ha hb I h fun v u s2 x y H2 I2 rx ry q => hr a b pins s2 σ H2 x y v u Q I2 rx ry q (hs _ _))
def rIxL (K : PySem.W.Frag) : R2 := fun x y H Q => ∃ p xs i v, x = .ref p ∧ y = .int i ∧ SqL K H p xs ∧ atI xs i = some v ∧ Q v H
def rIxT (K : PySem.W.Frag) : R2 := fun x y H Q => ∃ p xs i v, x = .ref p ∧ y = .int i ∧ SqT K H p xs ∧ atI xs i = some v ∧ Q v H
theorem ix_list : IxR X (rIxL X.K) := by
  intro value slice pins s σ H x y v u Q I rx ry h hs
  obtain ⟨p, xs, i, z, rfl, rfl, hq, he, q⟩ := h
  cases rx
  obtain ⟨t, rfl⟩ := ry
  obtain ⟨its, r, pl, hz⟩ := I.list hq
  obtain ⟨j, h1, h2, h3, h4, h5⟩ := atI_get he
  obtain ⟨w, ew, rw'⟩ := r.get h2
  have hl := r.length
  have hn := line63
  have fin : EP X pins σ Q w s := ⟨z, H, I, rw', q⟩
  by_cases h0 : 0 ≤ i
  · have hj : i.toNat = j := by
      rw [seqIndex_of h0 h5] at h1
      exact Option.some.inj h1
    exact item_listR pl.isList h0 (by omega) (by rw [hj]; simpa using ew) fin hs
  · have hj : (i + (its.toArray.size : Int)).toNat = j := by
      rw [seqIndex_neg (by omega) h4] at h1
      rw [List.size_toArray, ← hl]
      exact Option.some.inj h1
    exact subscriptTail_builtinR (x := w) pl.isList.typeIs slot_list_getitem.lookup
      (wpAny_getItem_list_neg (Q := fun r s' => r = w ∧ EP X pins σ Q r s') pl.isList (by omega) (by rw [List.size_toArray] <;> omega) (by omega) (by rw [hj]; simpa using ew) ⟨rfl, fin⟩) hs
theorem ix_tup : IxR X (rIxT X.K) := by
  intro value slice pins s σ H x y v u Q I rx ry h hs
  obtain ⟨p, xs, i, z, rfl, rfl, hq, he, q⟩ := h
  cases rx
  obtain ⟨t, rfl⟩ := ry
  obtain ⟨its, r, pl, hz⟩ := I.tuple hq
  obtain ⟨j, h1, h2, h3, h4, h5⟩ := atI_get he
  obtain ⟨w, ew, rw'⟩ := r.get h2
  have hl := r.length
  have hn := line63
  have fin : EP X pins σ Q w s := ⟨z, H, I, rw', q⟩
  exact subscriptTail_builtinR (x := w) pl.typeIs slot_tuple_getitem.lookup
    (getItem_tuple (j := j) (Q := fun r s' => r = w ∧ EP X pins σ Q r s') pl (by omega) (by omega) (by rw [List.size_toArray, ← hl]; exact h1) (by simpa using ew) ⟨rfl, fin⟩) hs
theorem mapSeq_set (its : List Value) (n j : Nat) (u : Value) : Obj.mapSeq (·.setIfInBounds j u) { cls := .type "list", data := .seq its.toArray n } = { cls := .type "list", data := .seq (its.set j u).toArray n } := by
  simp [Obj.mapSeq]
theorem Inv.lst {pins : List (Addr × Obj)} {σ : St} {H : Hp} {s : Shared} {p : Addr} {xs : List V} (I : Inv X pins σ H s) (h : H p = some (.lst xs)) :
    ∃ (its : List Value) (n : Nat), Vals xs its ∧ s.heap.get? p = some { cls := .type "list", data := .seq its.toArray n } ∧ xs.length ≤ sizeLine := by
  obtain ⟨z, its, n, r, e⟩ := I.hok p _ h
  exact ⟨its, n, r, e, z⟩
theorem Inv.lstUpd {pins : List (Addr × Obj)} {σ : St} {H : Hp} {s : Shared} {p : Addr} {xs ys : List V} {its its' : List Value} {n n' : Nat} {f : Obj → Obj} (I : Inv X pins σ H s) (h : H p = some (.lst xs))
    (ho : s.heap.get? p = some { cls := .type "list", data := .seq its.toArray n }) (hf : f { cls := .type "list", data := .seq its.toArray n } = { cls := .type "list", data := .seq its'.toArray n' }) (r : Vals ys its') (hz : ys.length ≤ sizeLine) (t : Nat) :
    Inv X pins σ (upd H p (.lst ys)) { s with heap := s.heap.update p f, toks := t } := by
  have e : (s.heap.update p f).get? p = some { cls := .type "list", data := .seq its'.toArray n' } := by
    rw [Heap.get?_update_self f ho (by rw [hf] <;> rfl), hf]
  refine I.write (x := p) (e := p) (by rw [h]; trivial) (.inl rfl) (fun b u hb q => (Heap.get?_update_other _ _ (Ne.symm hb)).trans q) ⟨_, e⟩ ?_
  exact ⟨hz, its', n', r, e⟩
def rSetL : V → V → V → Hp → (Hp → Prop) → Prop := fun o i v H Q => ∃ p xs k j, o = .ref p ∧ i = .int k ∧ H p = some (.lst xs) ∧ ixN xs.length k = some j ∧ Q (upd H p (.lst (xs.set j v)))
theorem set_list : PSet X rSetL := by
  intro pins s σ H o i v ov iv u Q I ro ri rv h
  obtain ⟨p, xs, k, j, rfl, rfl, hp, hj, q⟩ := h
  cases ro
  obtain ⟨t, rfl⟩ := ri
  obtain ⟨its, n, r, ho, hz⟩ := I.lst hp
  obtain ⟨h1, h2, h3, h4⟩ := ixN_seq hj
  have hl := r.length
  have hn := line63
  have I' : Inv X pins σ (upd H p (.lst (xs.set j v))) { s with heap := s.heap.update p (Obj.mapSeq (·.setIfInBounds j u)) } :=
    I.lstUpd hp ho (mapSeq_set its n j u) (r.set rv j) (by rw [List.length_set]; exact hz) s.toks
  by_cases h0 : 0 ≤ k
  · have hk : k.toNat = j := by
      rw [seqIndex_of h0 h4] at h1
      exact Option.some.inj h1
    exact PySem.W.ki_setAt ho h0 (by omega) (by rw [List.size_toArray, ← hl]; exact h4) (by rw [hk]; exact ⟨_, I', q⟩)
  · have hk : (k + (its.toArray.size : Int)).toNat = j := by
      rw [seqIndex_neg (by omega) h3] at h1
      rw [List.size_toArray, ← hl]
      exact Option.some.inj h1
    exact PySem.W.ki_setBack ho (by omega) (by rw [List.size_toArray, ← hl]; exact h3) (by omega) (by rw [hk]; exact ⟨_, I', q⟩)
theorem slice_bounds (lo hi : Option Int) (n : Nat) : (sliceBounds lo hi none n).1 = ((HT.sIx n 0 lo : Nat) : Int) ∧ (sliceBounds lo hi none n).2.1 = ((HT.sIx n n hi : Nat) : Int) ∧ (sliceBounds lo hi none n).2.2 = 1 := by
  refine ⟨?_, ?_, rfl⟩
  · cases lo with
    | none => simp [sliceBounds, HT.sIx]
    | some i =>
      simp only [sliceBounds, HT.sIx, Option.getD_none, show (1 : Int) > 0 by decide, if_true]
      by_cases h : i < 0
      · simp only [h, if_true] <;> omega
      · simp only [h, if_false] <;> omega
  · cases hi with
    | none => simp [sliceBounds, HT.sIx]
    | some i =>
      simp only [sliceBounds, HT.sIx, Option.getD_none, show (1 : Int) > 0 by decide, if_true]
      by_cases h : i < 0
      · simp only [h, if_true] <;> omega
      · simp only [h, if_false] <;> omega
theorem slicePick_cut (its : List Value) (lo hi : Option Int) : slicePick its.toArray lo hi none = ((its.drop (HT.sIx its.length 0 lo)).take (HT.sIx its.length its.length hi - HT.sIx its.length 0 lo)).toArray := by
  obtain ⟨h1, h2, h3⟩ := slice_bounds lo hi its.toArray.size
  unfold slicePick
  rw [h1, h2, h3]
  simp only [sliceRange_one, pick_run, List.size_toArray] <;> rfl
def rSlL (K : PySem.W.Frag) : V → Option Int → Option Int → Hp → VK → Prop := fun x lo hi H Q => ∃ a xs, x = .ref a ∧ SqL K H a xs ∧ ∀ p, H p = none → Q (.ref p) (upd H p (.lst (cutV xs lo hi)))
theorem sl_list : SlR X (rSlL X.K) := by
  intro pins s σ H x v vl vu lo hi sl Q I rx hs pl pu h
  obtain ⟨a, xs, rfl, hx, q⟩ := h
  cases rx
  obtain ⟨its, r, ht, hz⟩ := I.list hx
  have hlen := r.length
  refine ⟨"list", _, slot_list_getitem.lookup, ht.isList.typeIs, ?_⟩
  refine wpAny_getItem_list_slice ht.isList hs pl pu .none (by simp) ?_ (by rw [List.size_toArray] <;> omega)
  rw [slicePick_cut, ← hlen]
  refine ⟨.ref s.heap.objs.size, _, I.laid (t' := s.toks) (o := .lst (cutV xs lo hi)) (fun b ob q => Heap.get?_push_of_some _ q) (Nat.le_refl _) ?_, rfl, q _ (I.hok.fresh (Nat.le_refl _))⟩
  exact ⟨Nat.le_trans (cutV_length xs lo hi) hz, _, 0, (r.drop (HT.sIx xs.length 0 lo)).take (HT.sIx xs.length xs.length hi - HT.sIx xs.length 0 lo), Heap.get?_push_size _ rfl⟩
def flatV : V → Bool
  | .non => true
  | .bl _ => true
  | .int _ => true
  | .str _ => true
  | _ => false
def eqV : V → V → Bool
  | .non, .non => true
  | .bl a, .bl b => a == b
  | .bl a, .int b => (if a then 1 else 0) == b
  | .int a, .bl b => a == (if b then 1 else 0)
  | .int a, .int b => a == b
  | .str a, .str b => a == b
  | _, _ => false
theorem eqAt_V {A : Around} {s : Shared} {y x : V} {u v : Value} (ry : RelV y u) (rx : RelV x v) (fy : flatV y = true) (fx : flatV x = true) : SeqAt.EqAt A s u v (eqV y x) := by
  cases y with
  | non =>
    cases ry
    cases x with
    | non => cases rx; exact SeqAt.EqAt.same _
    | bl b => cases rx; exact SeqAt.EqAt.none_bool b
    | int b => obtain ⟨t, rfl⟩ := rx; exact SeqAt.EqAt.none_int b t
    | str b => obtain ⟨t, rfl⟩ := rx; exact SeqAt.EqAt.none_str b t
    | _ => exact absurd (show false = true from fx) Bool.false_ne_true
  | bl a =>
    cases ry
    cases x with
    | non => cases rx; exact SeqAt.EqAt.bool_none a
    | bl b => cases rx; exact SeqAt.EqAt.bool_bool a b
    | int b => obtain ⟨t, rfl⟩ := rx; exact SeqAt.EqAt.bool_int a b t
    | str b => obtain ⟨t, rfl⟩ := rx; exact SeqAt.EqAt.bool_str a b t
    | _ => exact absurd (show false = true from fx) Bool.false_ne_true
  | int a =>
    obtain ⟨t', rfl⟩ := ry
    cases x with
    | non => cases rx; exact SeqAt.EqAt.int_none a t'
    | bl b => cases rx; exact SeqAt.EqAt.int_bool a t' b
    | int b => obtain ⟨t, rfl⟩ := rx; exact SeqAt.EqAt.int_int a t' b t
    | str b => obtain ⟨t, rfl⟩ := rx; exact SeqAt.EqAt.int_str a t' b t
    | _ => exact absurd (show false = true from fx) Bool.false_ne_true
  | str a =>
    obtain ⟨t', rfl⟩ := ry
    cases x with
    | non => cases rx; exact SeqAt.EqAt.str_none a t'
    | bl b => cases rx; exact SeqAt.EqAt.str_bool a t' b
    | int b => obtain ⟨t, rfl⟩ := rx; exact SeqAt.EqAt.str_int a t' b t
    | str b => obtain ⟨t, rfl⟩ := rx; exact SeqAt.EqAt.str_str a t' b t
    | _ => exact absurd (show false = true from fx) Bool.false_ne_true
  | _ => exact absurd (show false = true from fy) Bool.false_ne_true
def eqU (x : V) (u : Value) : Bool := match u with
  | .none => eqV .non x
  | .bool b => eqV (.bl b) x
  | .int i _ => eqV (.int i) x
  | .str z _ => eqV (.str z) x
  | _ => false
theorem eqU_of {x y : V} {u : Value} (r : RelV y u) (f : flatV y = true) : eqU x u = eqV y x := by
  cases y with
  | non => cases r; rfl
  | bl b => cases r; rfl
  | int i => obtain ⟨t, rfl⟩ := r; rfl
  | str z => obtain ⟨t, rfl⟩ := r; rfl
  | _ => exact absurd (show false = true from f) Bool.false_ne_true
theorem any_eqU {x : V} : ∀ {xs : List V} {us : List Value}, Vals xs us → xs.all flatV = true → us.any (eqU x) = xs.any fun y => eqV y x
  | _, _, .nil, _ => rfl
  | y :: xs, u :: us, .cons r t, f => by
    rw [List.all_cons, Bool.and_eq_true] at f
    rw [List.any_cons, List.any_cons, eqU_of r f.1, any_eqU t f.2]
theorem mem_eqAt {A : Around} {s : Shared} {x : V} {v : Value} (rx : RelV x v) (fx : flatV x = true) : ∀ {xs : List V} {us : List Value}, Vals xs us → xs.all flatV = true → ∀ u ∈ us, SeqAt.EqAt A s u v (eqU x u)
  | _, _, .nil, _ => fun u hu => by cases hu
  | y :: xs, u :: us, .cons r t, f => fun u' hu => by
    rw [List.all_cons, Bool.and_eq_true] at f
    rcases List.mem_cons.mp hu with rfl | hu
    · rw [eqU_of r f.1]; exact eqAt_V r rx f.1 fx
    · exact mem_eqAt rx fx t f.2 u' hu
def inV (x : V) (xs : List V) : Bool := xs.any fun y => eqV y x
def rIn (K : PySem.W.Frag) (neg : Bool) : R2 := fun x y H Q => ∃ p xs, y = .ref p ∧ (SqL K H p xs ∨ SqT K H p xs) ∧ flatV x = true ∧ xs.all flatV = true ∧ Q (.bl (if neg then !inV x xs else inV x xs)) H
theorem op_in_seq : OpR X (compareOp .In) (rIn X.K false) := by
  intro pins s σ H x y v u Q I rx ry h
  obtain ⟨p, xs, rfl, hq, fx, fs, q⟩ := h
  cases ry
  rcases hq with hq | hq
  · obtain ⟨its, r, pl, hz⟩ := I.list hq
    refine SeqAt.in_listAt (eqU x) pl.isList (fun w hw => mem_eqAt rx fx r fs w (by simpa using hw)) ⟨.bl _, H, I, rfl, ?_⟩
    rw [show its.toArray.any (eqU x) = its.any (eqU x) by simp, any_eqU r fs]
    exact q
  · obtain ⟨its, r, pl, hz⟩ := I.tuple hq
    refine SeqAt.in_tupleAt (eqU x) pl (fun w hw => mem_eqAt rx fx r fs w (by simpa using hw)) ⟨.bl _, H, I, rfl, ?_⟩
    rw [show its.toArray.any (eqU x) = its.any (eqU x) by simp, any_eqU r fs]
    exact q
theorem op_notIn_seq : OpR X (compareOp .NotIn) (rIn X.K true) := by
  intro pins s σ H x y v u Q I rx ry h
  obtain ⟨p, xs, rfl, hq, fx, fs, q⟩ := h
  cases ry
  rcases hq with hq | hq
  · obtain ⟨its, r, pl, hz⟩ := I.list hq
    refine SeqAt.notIn_listAt (eqU x) pl.isList (fun w hw => mem_eqAt rx fx r fs w (by simpa using hw)) ⟨.bl _, H, I, rfl, ?_⟩
    rw [show its.toArray.any (eqU x) = its.any (eqU x) by simp, any_eqU r fs]
    exact q
  · obtain ⟨its, r, pl, hz⟩ := I.tuple hq
    refine SeqAt.notIn_tupleAt (eqU x) pl (fun w hw => mem_eqAt rx fx r fs w (by simpa using hw)) ⟨.bl _, H, I, rfl, ?_⟩
    rw [show its.toArray.any (eqU x) = its.any (eqU x) by simp, any_eqU r fs]
    exact q
theorem call_len_seq : CallR X (.builtin "len") (fun xs H Q => ∃ p ys, xs = [.ref p] ∧ (SqL X.K H p ys ∨ SqT X.K H p ys) ∧ Q (.int ys.length) H) := by
  intro pins s σ H xs us Q I r h
  obtain ⟨p, ys, rfl, hq, q⟩ := h
  obtain ⟨u, rfl, rx⟩ := vals1 r
  cases rx
  have hn := line63
  rcases hq with hq | hq
  · obtain ⟨its, r', pl, hz⟩ := I.list hq
    have hlen := r'.length
    exact Calls.call_len_list pl.isList (by simp only [List.size_toArray] <;> omega) ⟨.int ys.length, H, I.tok _, ⟨s.toks + 1, by rw [List.size_toArray, hlen]⟩, q⟩
  · obtain ⟨its, r', pl, hz⟩ := I.tuple hq
    have hlen := r'.length
    exact len_tuple pl (by simp only [List.size_toArray] <;> omega) ⟨.int ys.length, H, I.tok _, ⟨s.toks + 1, by rw [List.size_toArray, hlen]⟩, q⟩
theorem call_len_str : CallR X (.builtin "len") (fun xs H Q => ∃ z, xs = [.str z] ∧ z.length ≤ sizeLine ∧ Q (.int z.length) H) := by
  intro pins s σ H xs us Q I r h
  obtain ⟨z, rfl, hz, q⟩ := h
  obtain ⟨u, rfl, t, rfl⟩ := vals1 r
  have hn := line63
  exact len_str (by omega) ⟨.int z.length, H, I.tok _, ⟨_, rfl⟩, q⟩
theorem CallR.or {f : Value} {r r' : List V → Hp → VK → Prop} (h : CallR X f r) (h' : CallR X f r') : CallR X f (fun xs H Q => r xs H Q ∨ r' xs H Q) := by
  intro pins s σ H xs us Q I rs q
  rcases q with q | q
  · exact h pins s σ H xs us Q I rs q
  · exact h' pins s σ H xs us Q I rs q
theorem call_list_of : CallR X (.type "list") (fun xs H Q => ∃ p ys, xs = [.ref p] ∧ (SqL X.K H p ys ∨ SqT X.K H p ys) ∧ ∀ l, H l = none → Q (.ref l) (upd H l (.lst ys))) := by
  intro pins s σ H xs us Q I r h
  obtain ⟨p, ys, rfl, hq, q⟩ := h
  obtain ⟨u, rfl, rx⟩ := vals1 r
  cases rx
  have fin : ∀ (its : List Value), Vals ys its → ys.length ≤ sizeLine → ∀ (h' : Heap) (c' : Nat), (∀ b o', s.heap.get? b = some o' → h'.get? b = some o') →
      h'.get? s.heap.objs.size = some { cls := .type "list", dict := none, data := .seq its.toArray c', slots := #[] } → EP X pins σ Q (.ref s.heap.objs.size) { s with heap := h' } := fun its r' hz h' c' kp e =>
    ⟨.ref s.heap.objs.size, _, I.laid (t' := s.toks) kp (Nat.le_refl _) (show ObjOk X.prog X.w _ h' _ (.lst ys) from ⟨hz, its, c', r', e⟩), rfl, q _ (I.hok.fresh (Nat.le_refl _))⟩
  rcases hq with hq | hq
  · obtain ⟨its, r', pl, hz⟩ := I.list hq
    have hlen := r'.length
    obtain ⟨o, ho, hc, n, hd⟩ := pl.isList
    exact call_list_seq p (.inl rfl) ho hc hd (fun h' c' kp e => fin its r' hz h' c' kp e) (by simp only [List.size_toArray] <;> omega)
  · obtain ⟨its, r', pl, hz⟩ := I.tuple hq
    have hlen := r'.length
    obtain ⟨o, ho, hc, n, hd⟩ := pl
    exact call_list_seq p (.inr rfl) ho hc hd (fun h' c' kp e => fin its r' hz h' c' kp e) (by simp only [List.size_toArray] <;> omega)
theorem call_tuple_of : CallR X (.type "tuple") (fun xs H Q => ∃ p ys, xs = [.ref p] ∧ ((SqL X.K H p ys ∧ ∀ l, H l = none → Q (.ref l) (upd H l (.tup ys))) ∨ (SqT X.K H p ys ∧ Q (.ref p) H))) := by
  intro pins s σ H xs us Q I r h
  obtain ⟨p, ys, rfl, h⟩ := h
  obtain ⟨u, rfl, rx⟩ := vals1 r
  cases rx
  rcases h with ⟨hq, q⟩ | ⟨hq, q⟩
  · obtain ⟨its, r', pl, hz⟩ := I.list hq
    have hlen := r'.length
    refine call_tuple_list pl.isList (fun h' kp => ?_) (by simp only [List.size_toArray] <;> omega)
    have I1 : Inv X pins σ H { s with heap := h' } := I.kept (t' := s.toks) kp
    have I2 : Inv X pins σ (upd H h'.objs.size (.tup ys)) { s with heap := h'.push { cls := .type "tuple", data := .seq its.toArray } } :=
      I1.laid (t' := s.toks) (fun b o e => Heap.get?_push_of_some _ e) (Nat.le_refl _) (show ObjOk X.prog X.w _ _ _ (.tup ys) from ⟨hz, its, r', IsTup.new _ _⟩)
    exact ⟨.ref h'.objs.size, _, I2, rfl, q _ (I1.hok.fresh (Nat.le_refl _))⟩
  · obtain ⟨its, r', pl, hz⟩ := I.tuple hq
    exact call_tuple_same pl ⟨.ref p, H, I, rfl, q⟩
def tyV (K : PySem.W.Frag) (T : String) (x : V) (H : Hp) : Prop := match x with
  | .str _ => T = "str"
  | .int _ => T = "int"
  | .ref p => (T = "list" ∧ ∃ xs, SqL K H p xs) ∨ (T = "tuple" ∧ ∃ o, K.lookup p = some o ∧ o.cls = .type "tuple" ∧ o.dict = none) ∨
      (T = "dict" ∧ ((∃ kvs, H p = some (.dK kvs)) ∨ ∃ kvs, H p = some (.dT kvs))) ∨ (T = "set" ∧ ∃ S n, H p = some (.set S n))
  | _ => False
theorem tyV_is {pins : List (Addr × Obj)} {σ : St} {H : Hp} {s : Shared} {T : String} {x : V} {v : Value} (I : Inv X pins σ H s) (r : RelV x v) (ty : tyV X.K T x H) :
    s.TypeIs v T ∧ ∀ a, v = .ref a → ∃ ob, s.heap.get? a = some ob ∧ ob.dict = none := by
  cases x with
  | str z =>
    obtain ⟨t, rfl⟩ := r
    cases (show T = "str" from ty)
    exact ⟨typeIs_str s z t, fun _ e => nomatch e⟩
  | int i =>
    obtain ⟨t, rfl⟩ := r
    cases (show T = "int" from ty)
    exact ⟨typeIs_int s i t, fun _ e => nomatch e⟩
  | ref p =>
    cases r
    rcases ty with ⟨rfl, xs, hq⟩ | ⟨rfl, o, hk, hc, hd⟩ | ⟨rfl, hk⟩ | ⟨rfl, S, n, hk⟩
    · obtain ⟨its, _, pl, _⟩ := I.list hq
      refine ⟨pl.isList.typeIs, fun a e => ?_⟩
      cases e
      obtain ⟨o, n, e, c, hd, _⟩ := pl
      exact ⟨o, e, hd⟩
    · refine ⟨⟨o, I.kIn p o hk, hc⟩, fun a e => ?_⟩
      cases e
      exact ⟨o, I.kIn _ o hk, hd⟩
    · have z : ∃ o, s.heap.get? p = some o ∧ o.ExactDict := by
        rcases hk with ⟨kvs, hk⟩ | ⟨kvs, hk⟩
        · obtain ⟨_, _, _, _, o, _, _, e, ex, _⟩ := I.hok p _ hk
          exact ⟨o, e, ex⟩
        · obtain ⟨_, _, _, _, o, _, _, e, ex, _⟩ := I.hok p _ hk
          exact ⟨o, e, ex⟩
      obtain ⟨o, e, ex⟩ := z
      refine ⟨⟨o, e, ex.1⟩, fun a e2 => ?_⟩
      cases e2
      exact ⟨o, e, ex.2.1⟩
    · obtain ⟨o, _, _, _, e, ex, _⟩ := I.hok p _ hk
      refine ⟨⟨o, e, ex.1⟩, fun a e2 => ?_⟩
      cases e2
      exact ⟨o, e, ex.2.1⟩
  | _ => exact False.elim ty
def tBM0 (K : PySem.W.Frag) (T : String) (r : V → List V → Hp → VK → Prop) (to : TE) : TE := fun σ H Q => to σ H fun x H1 => tyV K T x H1 ∧ r x [] H1 Q
def tBM (K : PySem.W.Frag) (T : String) (r : V → List V → Hp → VK → Prop) (to : TE) (t : TA) : TE := fun σ H Q => to σ H fun x H1 => tyV K T x H1 ∧ t σ H1 fun xs H2 => r x xs H2 Q
variable {o e : Expr} {es : List Expr} {to : TE} {t : TA} {name : Str} {apos cpos : Pos} {T id : String} {r : V → List V → Hp → VK → Prop}
theorem pe_bm0 (pa : PlainAttrs T) (slot : Slot T name id) (hty : typeOf (.builtin id) = pure (.type "method_descriptor")) (hm : MtR X id r) (ho : PE X o to)
    (hbase : attributeBase o name X.env (eval o X.env) = eval o X.env := by rfl) (hline : (apos.endLine == cpos.line) = true := by rfl) : PE X (.Call (.Attribute o name apos) [] [] cpos) (tBM0 X.K T r to) := by
  intro pins s σ H Q I h
  refine wpAny_Call_method0_late hbase hline (thn (ho pins s σ H _ I h) fun v s1 ⟨x, H1, I1, r1, ty, q1⟩ => ?_)
  obtain ⟨h1, h2⟩ := tyV_is I1 r1 ty
  exact ⟨T, id, pa, slot, hty, h1, h2, Calls.callWith_builtin rfl (PySem.evalArgs_none (hm pins s1 σ H1 x [] v [] Q I1 r1 .nil q1))⟩
theorem pe_bm (pa : PlainAttrs T) (slot : Slot T name id) (hty : typeOf (.builtin id) = pure (.type "method_descriptor")) (hm : MtR X id r) (ho : PE X o to) (ha : PA X (e :: es) t)
    (hbase : attributeBase o name X.env (eval o X.env) = eval o X.env := by rfl)
    (hfew : ((backTo cpos (starEach (e :: es) X.env)).all (fun x => !x.1) && (backToKw cpos (keywordEach [] X.env)).all (fun x => x.1.isSome)
      && decide ((e :: es).length + ([] : List Keyword).length + (if ([] : List Keyword).isEmpty then 0 else 1) < 30)) = true := by rfl)
    (hline : (apos.endLine == cpos.line) = true := by rfl) (hs : starEach (e :: es) X.env = (false, eval e X.env) :: starEach es X.env := by rfl) (hplain : (backTo cpos (starEach es X.env)).any (·.1) = false := by rfl) :
    PE X (.Call (.Attribute o name apos) (e :: es) [] cpos) (tBM X.K T r to t) := by
  intro pins s σ H Q I h
  refine wpAny_Call_method_late hbase hfew hline rfl (thn (ho pins s σ H _ I h) fun v s1 ⟨x, H1, I1, r1, ty, q1⟩ => ?_)
  obtain ⟨h1, h2⟩ := tyV_is I1 r1 ty
  refine ⟨T, id, pa, slot, hty, h1, h2, ?_⟩
  have hA := ha cpos pins s1 σ H1 _ I1 q1
  rw [hs] at hA ⊢
  refine Calls.callWith_builtin (by show (false || (backTo cpos (starEach es X.env)).any (·.1)) = false; rw [hplain] <;> rfl) (Calls.evalArgs_plain ?_)
  exact thn hA fun us s2 ⟨vs, H2, I2, r2, q2⟩ => hm pins s2 σ H2 x vs v us Q I2 r1 r2 q2
/- xs.append(e), list.index on a module's tuple .. are MtR facts of 06m -/
end
end L2
namespace L2
open PySem PySem.Spec PyProof.Rows
def MtM (X : Cx) (id : String) (r : V → List V → Hp → VK → Prop) : Prop :=
  ∀ (pins : List (Addr × Obj)) (s : Shared) (σ : St) (H : Hp) (x : V) (xs : List V) (v : Value) (us : List Value) (Q : VK), Inv X pins σ H s → RelV x v → Vals xs us → r x xs H Q →
    wpAny (model X.prog X.w) X.A (call (.builtin id) (v :: us)) (EP X pins σ Q) X.xe s
theorem Vals.one : ∀ {x : V} {us : List Value}, Vals [x] us → ∃ u, us = [u] ∧ RelV x u
  | _, _, .cons r .nil => ⟨_, rfl, r⟩
theorem Vals.two : ∀ {x y : V} {us : List Value}, Vals [x, y] us → ∃ u v, us = [u, v] ∧ RelV x u ∧ RelV y v
  | _, _, _, .cons r (.cons q .nil) => ⟨_, _, rfl, r, q⟩
theorem Vals.zero : ∀ {us : List Value}, Vals [] us → us = []
  | _, .nil => rfl
theorem Vals.dropLast {xs : List V} {us : List Value} (h : Vals xs us) : Vals xs.dropLast us.dropLast := by
  induction h with
  | nil => exact .nil
  | cons r t ih =>
    cases t with
    | nil => exact .nil
    | cons q t' => exact .cons r ih
theorem Vals.eraseIdx : ∀ {xs : List V} {us : List Value} (i : Nat), Vals xs us → Vals (xs.eraseIdx i) (us.eraseIdx i)
  | _, _, _, .nil => .nil
  | _, _, 0, .cons _ t => t
  | _, _, i + 1, .cons r t => .cons r (Vals.eraseIdx i t)
theorem Vals.reverse {xs : List V} {us : List Value} (h : Vals xs us) : Vals xs.reverse us.reverse := by
  induction h with
  | nil => exact .nil
  | cons r t ih => rw [List.reverse_cons, List.reverse_cons]; exact Vals.append ih (.cons r .nil)
theorem Vals.rep {xs : List V} {us : List Value} (h : Vals xs us) : ∀ k : Nat, Vals (List.replicate k xs).flatten (List.replicate k us).flatten
  | 0 => .nil
  | k + 1 => by
    rw [List.replicate_succ, List.replicate_succ, List.flatten_cons, List.flatten_cons]
    exact Vals.append h (Vals.rep h k)
theorem erase_last {α : Type} (l : List α) : l.eraseIdx (l.length - 1) = l.dropLast := by
  induction l with
  | nil => rfl
  | cons a r ih =>
    cases r with
    | nil => rfl
    | cons b r =>
      have e : (a :: b :: r).length - 1 = ((b :: r).length - 1) + 1 := by
        have h1 : (a :: b :: r).length = r.length + 2 := rfl
        have h2 : (b :: r).length = r.length + 1 := rfl
        omega
      rw [e, List.eraseIdx_cons_succ, ih]
      all_goals rfl
theorem foldl_rep (its : List Value) : ∀ (k : Nat) (acc : List Value),
    List.foldl (fun x1 x2 => x1 ++ x2) acc.toArray (List.replicate k its.toArray) = (acc ++ (List.replicate k its).flatten).toArray
  | 0, acc => by simp
  | k + 1, acc => by
    have e : acc.toArray ++ its.toArray = (acc ++ its).toArray := by simp
    have e2 : (acc ++ its) ++ (List.replicate k its).flatten = acc ++ (List.replicate (k + 1) its).flatten := by
      rw [List.replicate_succ, List.flatten_cons, List.append_assoc]
    rw [← e2, ← foldl_rep its k (acc ++ its), ← e, List.replicate_succ, List.foldl_cons]
section
variable {X : Cx} {pins : List (Addr × Obj)} {σ : St} {H : Hp} {s : Shared} {l b : Addr} {xs ys zs : List V}
theorem Inv.lset {its its' : List Value} {n : Nat} {f : Array Value → Array Value} {t' : Nat} (I : Inv X pins σ H s) (hH : H l = some (.lst xs))
    (e : s.heap.get? l = some { cls := .type "list", data := .seq its.toArray n }) (hf : f its.toArray = its'.toArray) (hv : Vals ys its') (hz : ys.length ≤ sizeLine) :
    Inv X pins σ (upd H l (.lst ys)) { s with heap := s.heap.update l (Obj.mapSeq f), toks := t' } := by
  have q := PySem.IsL.update e f
  rw [hf] at q
  refine I.write (x := l) (e := l) (by rw [hH]; exact trivial) (.inl rfl) (fun b' u hb hu => (Heap.get?_update_other s.heap (Obj.mapSeq f) (Ne.symm hb)).trans hu) ⟨_, q⟩ ?_
  exact ⟨hz, its', _, hv, q⟩
theorem Inv.lnew {its : List Value} {t' : Nat} (I : Inv X pins σ H s) (hv : Vals ys its) (hz : ys.length ≤ sizeLine) :
    Inv X pins σ (upd H s.heap.objs.size (.lst ys)) { s with heap := s.heap.push { cls := .type "list", data := .seq its.toArray }, toks := t' } :=
  I.laid (fun _ _ q => Heap.get?_push_of_some _ q) (Nat.le_refl _) ⟨hz, its, 0, hv, Heap.get?_push_size _ rfl⟩
theorem Inv.fresh (I : Inv X pins σ H s) : H s.heap.objs.size = none := I.hok.fresh (Nat.le_refl _)
theorem Inv.lstM (I : Inv X pins σ H s) (hH : H l = some (.lst xs)) : xs.length ≤ sizeLine ∧ ∃ (its : List Value) (n : Nat), Vals xs its ∧ xs.length = its.length ∧ s.heap.get? l = some { cls := .type "list", data := .seq its.toArray n } := by
  obtain ⟨z, its, n, r, e⟩ := I.hok l _ hH
  exact ⟨z, its, n, r, r.length, e⟩
theorem notLongL {n : Nat} (h : n ≤ sizeLine) : Builtin.List.listTooLong n = false := by
  unfold Builtin.List.listTooLong
  exact decide_eq_false (by omega)
end
section
variable {X : Cx}
def rAppend : V → List V → Hp → VK → Prop := fun x vs H Q => ∃ l xs y, x = .ref l ∧ vs = [y] ∧ H l = some (.lst xs) ∧ xs.length < sizeLine ∧ Q .non (upd H l (.lst (xs ++ [y])))
theorem mt_append : MtM X "list.append" rAppend := by
  intro pins s σ H x vs v us Q I rx rv h
  obtain ⟨l, xs, y, rfl, rfl, hH, hz, q⟩ := h
  cases rx
  obtain ⟨u, rfl, ru⟩ := rv.one
  obtain ⟨z, its, n, r, hl, e⟩ := I.lstM hH
  refine call_meets F.slot_list_append ⟨_, e, rfl⟩ F.entry_list_append (F.args_list_append_2 _ _) (PySem.list_append l its.toArray n u (by rw [List.size_toArray]; omega)) ⟨e, ?_⟩
  refine ⟨.non, _, I.lset (its' := its ++ [u]) hH e (by simp) (r.append (.cons ru .nil)) ?_, rfl, q⟩
  rw [List.length_append, List.length_singleton]
  omega
def rExtend : V → List V → Hp → VK → Prop := fun x vs H Q => ∃ l b xs zs, x = .ref l ∧ vs = [.ref b] ∧ H l = some (.lst xs) ∧ H b = some (.lst zs) ∧ xs.length + zs.length ≤ sizeLine ∧ Q .non (upd H l (.lst (xs ++ zs)))
theorem mt_extend : MtM X "list.extend" rExtend := by
  intro pins s σ H x vs v us Q I rx rv h
  obtain ⟨l, b, xs, zs, rfl, rfl, hH, hB, hz, q⟩ := h
  cases rx
  obtain ⟨u, rfl, ru⟩ := rv.one
  cases ru
  obtain ⟨z, its, n, r, hl, e⟩ := I.lstM hH
  obtain ⟨z2, its2, n2, r2, hl2, e2⟩ := I.lstM hB
  have hsz : its.toArray.size + its2.toArray.size ≤ sizeLine := by rw [List.size_toArray, List.size_toArray]; omega
  have hlong : ¬ (!its.toArray.isEmpty && Builtin.List.listTooLong (its.toArray.size + its2.toArray.size)) = true := by
    rw [notLongL hsz, Bool.and_false]
    exact Bool.false_ne_true
  refine call_meets F.slot_list_extend ⟨_, e, rfl⟩ F.entry_list_extend (F.args_list_extend_2 _ _)
    (AutoSeq1.list_extend_list_list_0 l its.toArray n b its2.toArray n2 hlong (by rw [List.size_toArray]; omega) (by omega)) ⟨e, e2, ?_⟩
  refine ⟨.non, _, I.lset (its' := its ++ its2) hH e (by simp) (r.append r2) ?_, rfl, q⟩
  rw [List.length_append]
  omega
def rPop : V → List V → Hp → VK → Prop := fun x vs H Q => ∃ l xs y, x = .ref l ∧ vs = [] ∧ H l = some (.lst xs) ∧ xs[xs.length - 1]? = some y ∧ Q y (upd H l (.lst xs.dropLast))
theorem mt_pop : MtM X "list.pop" rPop := by
  intro pins s σ H x vs v us Q I rx rv h
  obtain ⟨l, xs, y, rfl, rfl, hH, hy, q⟩ := h
  cases rx
  have hus := rv.zero
  subst hus
  obtain ⟨z, its, n, r, hl, e⟩ := I.lstM hH
  obtain ⟨u, hu, ru⟩ := r.get hy
  have hy' : its.toArray[its.toArray.size - 1]? = some u := by
    show its.toArray[its.length - 1]? = some u
    rw [← Array.getElem?_toList, ← hl]
    exact hu
  refine call_meets F.slot_list_pop ⟨_, e, rfl⟩ F.entry_list_pop (F.args_list_pop_1 _) (MeetsSeq.list_pop_last l its.toArray n u hy' (by rw [List.size_toArray]; omega)) ⟨e, ?_⟩
  refine ⟨y, _, I.lset (its' := its.dropLast) hH e ?_ r.dropLast ?_, ru, q⟩
  · show its.toArray.eraseIdxIfInBounds (its.toArray.size - 1) = its.dropLast.toArray
    rw [List.size_toArray, List.eraseIdxIfInBounds_toArray, erase_last]
  · rw [List.length_dropLast]
    omega
def rCat : R2 := fun x y H Q => ∃ l b xs zs, x = .ref l ∧ y = .ref b ∧ H l = some (.lst xs) ∧ H b = some (.lst zs) ∧ xs.length + zs.length ≤ sizeLine ∧ ∀ p, H p = none → Q (.ref p) (upd H p (.lst (xs ++ zs)))
theorem op_cat : OpR X (binaryOp .Add) rCat := by
  intro pins s σ H x y v u Q I rx ry h
  obtain ⟨l, b, xs, zs, rfl, rfl, hH, hB, hz, q⟩ := h
  cases rx
  cases ry
  obtain ⟨z, its, n, r, hl, e⟩ := I.lstM hH
  obtain ⟨z2, its2, n2, r2, hl2, e2⟩ := I.lstM hB
  refine PySem.P.add_list e e2 ?_ (by rw [List.size_toArray, List.size_toArray]; omega)
  have ea : its.toArray ++ its2.toArray = (its ++ its2).toArray := by simp
  rw [ea]
  exact ⟨.ref _, _, I.lnew (t' := s.toks) (r.append r2) (by rw [List.length_append]; omega), rfl, q _ I.fresh⟩
def rRep : R2 := fun x y H Q => ∃ l k xs, x = .ref l ∧ y = .int k ∧ H l = some (.lst xs) ∧ -(2 ^ 63) ≤ k ∧ k < 2 ^ 63 ∧ xs.length * k.toNat ≤ sizeLine ∧
  ∀ p, H p = none → Q (.ref p) (upd H p (.lst (List.replicate k.toNat xs).flatten))
theorem len_rep {α : Type} (xs : List α) (k : Nat) : (List.replicate k xs).flatten.length = k * xs.length := by
  induction k with
  | zero => simp
  | succ k ih => rw [List.replicate_succ, List.flatten_cons, List.length_append, ih, Nat.succ_mul, Nat.add_comm]
theorem op_rep : OpR X (binaryOp .Mult) rRep := by
  intro pins s σ H x y v u Q I rx ry h
  obtain ⟨l, k, xs, rfl, rfl, hH, h1, h2, hz, q⟩ := h
  cases rx
  obtain ⟨t, rfl⟩ := ry
  obtain ⟨z, its, n, r, hl, e⟩ := I.lstM hH
  have hlen : its.toArray.size * k.toNat ≤ sizeLine := by rw [List.size_toArray, ← hl]; exact hz
  have hcap : ¬ its.toArray.size * k.toNat > (2 ^ 63 - 1) / 8 := by
    have : (sizeLine : Nat) ≤ (2 ^ 63 - 1) / 8 := by decide
    omega
  have hfit : ¬ (!Builtin.List.listFitsIndex k) = true := by
    rw [fitsIndex_both h1 h2]
    exact Bool.false_ne_true
  have hlong : ¬ Builtin.List.listTooLong (its.toArray.size * k.toNat) = true := by
    rw [notLongL hlen]
    exact Bool.false_ne_true
  have hnew : List.foldl (fun x1 x2 => x1 ++ x2) #[] (List.replicate (if its.toArray.isEmpty = true then 0 else k.toNat) its.toArray) = (List.replicate k.toNat its).flatten.toArray := by
    have f0 : ∀ m : Nat, List.foldl (fun x1 x2 => x1 ++ x2) #[] (List.replicate m its.toArray) = (List.replicate m its).flatten.toArray := fun m => by
      have := foldl_rep its m []
      rw [List.nil_append] at this
      exact this
    rw [f0]
    cases its with
    | nil => simp
    | cons a r' => rw [if_neg (by simp)]
  refine wpAny_binaryOp_repeat_ref (T := "list") (U := "int") (by decide) ⟨_, e, rfl⟩ (fun s' => typeIs_int s' k t) noFill_list_mul F.fills_int_mul F.slot_int_rmul repeat_list F.slot_int_index.lookup
    (call_meets F.slot_int_rmul (typeIs_int s k t) F.entry_int_rmul (F.args_int_rmul_2 _ _) (int___rmul___int_list k t l its.toArray n)
      ⟨e, rfl, ⟨_, e, rfl⟩, call_meets F.slot_list_mul ⟨_, e, rfl⟩ F.entry_list_mul (F.args_list_mul_2 _ _) (AutoListH.list___mul___list_int_3 l its.toArray n k t hfit hcap hlong) ⟨e, ?_⟩⟩)
  rw [hnew]
  exact ⟨.ref _, _, I.lnew (t' := s.toks) (r.rep k.toNat) (by rw [len_rep, Nat.mul_comm]; exact hz), rfl, q _ I.fresh⟩
end
section
variable {prog : Program} {w : World} {A : Around} {E : Value → Shared → Prop} {s : Shared}
end
section
variable {X : Cx}
end
end L2
namespace L2
open PySem PySem.Spec PyProof.Rows
theorem Vals.ints : ∀ {ns : List Int} {us : List Value}, Vals (ns.map V.int) us → IntsAre us ns
  | [], us, h => by
    rw [List.map_nil] at h
    cases h
    exact IntsAre.nil
  | n :: ns, us, h => by
    rw [List.map_cons] at h
    cases h with
    | cons r t =>
      obtain ⟨k, rfl⟩ := r
      exact IntsAre.cons n k (Vals.ints t)
theorem vals_of_ints : ∀ {us : List Value} {ns : List Int}, IntsAre us ns → Vals (ns.map V.int) us
  | _, _, .nil => by rw [List.map_nil]; exact Paired.nil
  | _, _, .cons n t h => by rw [List.map_cons]; exact Paired.cons (show RelV (V.int n) (Value.int n t) from ⟨t, rfl⟩) (vals_of_ints h)
theorem Vals.strs : ∀ {xs : List Str} {us : List Value}, Vals (xs.map V.str) us → StrsAre us xs
  | [], us, h => by
    rw [List.map_nil] at h
    cases h
    exact StrsAre.nil
  | x :: xs, us, h => by
    rw [List.map_cons] at h
    cases h with
    | cons r t =>
      obtain ⟨k, rfl⟩ := r
      exact StrsAre.cons x k (Vals.strs t)
theorem Vals.bls : ∀ {bs : List Bool} {us : List Value}, Vals (bs.map V.bl) us → us = bs.map Value.bool
  | [], us, h => by
    rw [List.map_nil] at h
    cases h
    rfl
  | b :: bs, us, h => by
    rw [List.map_cons] at h
    cases h with
    | cons r t =>
      cases r
      rw [Vals.bls t, List.map_cons]
theorem Vals.ref1 {a : Addr} {us : List Value} (r : Vals [V.ref a] us) : us = [Value.ref a] := by
  cases r with
  | cons r t =>
    cases t
    cases r
    rfl
section
variable {prog : Program} {w : World} {A : Around} {E : Value → Shared → Prop} {s : Shared} {l : Addr} {its : List Value} {ns : List Int} {Q : Value → Shared → Prop}
theorem sum_raw (hh : A.handled = none) (hl : s.heap.IsList l its.toArray) (hi : IntsAre its ns)
    (h : ∀ h' tk t', (∀ b o, s.heap.get? b = some o → h'.get? b = some o) → Q (.int ns.sum t') { s with heap := h', toks := tk }) : wpAny (model prog w) A (call (.builtin "sum") [.ref l]) Q E s := by
  obtain ⟨xs, e⟩ := hi.allInts.items
  have hn : numsOf (intItems xs).toList = ns := by rw [← e]; exact hi.numsOf
  rw [nums_intItems] at hn
  rw [e] at hl
  refine PySem.sum_intListG hh hl fun h' tk t' hk => ?_
  have := h h' tk t' hk
  rw [preSum_eq, List.take_of_length_le (by simp), hn]; exact this
end
section
variable {X : Cx}
def rSum (K : PySem.W.Frag) : List V → Hp → VK → Prop := fun vs H Q => ∃ (a : Addr) (ns : List Int), vs = [V.ref a] ∧ SqL K H a (ns.map V.int) ∧ Q (.int ns.sum) H
theorem cr_sum (hc : X.calm = true) : CallR X (.builtin "sum") (rSum X.K) := by
  intro pins s σ H vs us Q I r h
  obtain ⟨a, ns, rfl, hs, q⟩ := h
  obtain ⟨its, rv, hl, _⟩ := I.list hs
  rw [Vals.ref1 r]
  exact sum_raw (I.ok.hd hc) hl.isList rv.ints fun h' tk t' hk => ⟨.int _, H, I.kept hk, ⟨_, rfl⟩, q⟩
def rSorted (K : PySem.W.Frag) : List V → Hp → VK → Prop := fun vs H Q => ∃ (a : Addr) (ns : List Int), vs = [V.ref a] ∧ SqL K H a (ns.map V.int) ∧ ns.length < 64 ∧
  ∀ (ns' : List Int) (p : Addr), ns'.Perm ns → ns'.Pairwise (· ≤ ·) → H p = none → Q (.ref p) (upd H p (.lst (ns'.map V.int)))
theorem small64 {n : Nat} (h : n < 64) : n ≤ sizeLine := by rw [sizeLine_eq]; omega
theorem cr_sorted : CallR X (.builtin "sorted") (rSorted X.K) := by
  intro pins s σ H vs us Q I r h
  obtain ⟨a, ns, rfl, hs, h64, q⟩ := h
  obtain ⟨its, rv, hl, _⟩ := I.list hs
  rw [Vals.ref1 r]
  have hi := rv.ints
  refine PyProof.Rows.sorted_ints hl.isList hi (by rw [hi.length]; exact h64) fun out ns' h1 h2 h3 => ?_
  obtain ⟨ep, he'⟩ := PyProof.Rows.sortedAll_at s.heap its out
  have hlen : (ns'.map V.int).length ≤ sizeLine := by rw [List.length_map, h2.length_eq]; exact small64 h64
  exact ⟨.ref _, upd H (s.heap.objs.size + 1) (.lst (ns'.map V.int)), I.laid (t' := s.toks) (fun _ _ => PyProof.Rows.sortedAll_old) (Nat.le_succ _) ⟨hlen, out.toList, ep, vals_of_ints h1, he'⟩, rfl, q ns' _ h2 h3 (I.hok.fresh (Nat.le_succ _))⟩
end
section
variable {X : Cx}
end
section
variable {X : Cx}
end
theorem iter_any {prog : Program} {w : World} {A : Around} {E : Value → Shared → Prop} {s : Shared} {l : Addr} {items : Array Value} {Q : Value → Shared → Prop} (hl : s.heap.IsList l items)
    (h : ∀ s₂ : Shared, s₂ = { s with heap := s.heap.push { cls := .type "list_iterator", data := .fields #[.ref l, .int 0 0] } } →
      (s₂.heap.IsListIter s.heap.objs.size l 0 ∧ s₂.heap.IsList l items) → l ≠ s.heap.objs.size → Q (.ref s.heap.objs.size) s₂) : wpAny (model prog w) A (pyIter (.ref l)) Q E s := by
  have hlt : l < s.heap.objs.size := by obtain ⟨_, e, _⟩ := hl; exact Heap.lt_size e
  exact wpAny_pyIter_list hl (h _ rfl ⟨⟨_, Heap.get?_push_size _ rfl, rfl, rfl⟩, hl.push _⟩ (Nat.ne_of_lt hlt))
theorem truth_bools {prog : Program} {w : World} {A : Around} {bs : List Bool} {its : List Value} (e : its = bs.map Value.bool) :
    TruthOf prog w A (fun i v => its.toArray[i]? = some v) (fun i => bs.getD i false) := fun i v s Q E hv hq => by
  have hv' : its[i]? = some v := by simpa using hv
  rw [e, List.getElem?_map] at hv'
  obtain ⟨b, hb, rfl⟩ := Option.map_eq_some_iff.mp hv'
  have hg : bs.getD i false = b := by rw [List.getD_eq_getElem?_getD, hb] <;> rfl
  have hq' : Q (bs.getD i false) s := hq
  rw [hg] at hq'
  exact wpAny_truthy_bool hq'
theorem any_range : ∀ bs : List Bool, (List.range bs.length).any (fun i => bs.getD i false) = bs.any id
  | [] => rfl
  | b :: bs => by
    rw [List.length_cons, List.range_succ_eq_map, List.any_cons, List.any_map, List.any_cons, ← any_range bs]
    all_goals rfl
theorem all_range : ∀ bs : List Bool, (List.range bs.length).all (fun i => bs.getD i false) = bs.all id
  | [] => rfl
  | b :: bs => by
    rw [List.length_cons, List.range_succ_eq_map, List.all_cons, List.all_map, List.all_cons, ← all_range bs]
    all_goals rfl
section
variable {X : Cx}
def rAny (K : PySem.W.Frag) : List V → Hp → VK → Prop := fun vs H Q => ∃ (a : Addr) (bs : List Bool), vs = [V.ref a] ∧ SqL K H a (bs.map V.bl) ∧ Q (.bl (bs.any id)) H
def rAll (K : PySem.W.Frag) : List V → Hp → VK → Prop := fun vs H Q => ∃ (a : Addr) (bs : List Bool), vs = [V.ref a] ∧ SqL K H a (bs.map V.bl) ∧ Q (.bl (bs.all id)) H
theorem cr_any (hc : X.calm = true) : CallR X (.builtin "any") (rAny X.K) := by
  intro pins s σ H vs us Q I r h
  obtain ⟨a, bs, rfl, hs, q⟩ := h
  obtain ⟨its, rv, hl, _⟩ := I.list hs
  rw [Vals.ref1 r]
  have hb := rv.bls
  refine call_any_walk (iter_any hl.isList fun s₂ e2 st hne => ?_)
  subst e2
  refine ⟨_, _, _, _, _, _, _, rfl, Walks.list (A := X.A.in1) (I.ok.hd hc) _ a hne its.toArray, st, truth_bools hb, fun h' tk hk => ?_⟩
  refine ⟨.bl _, H, I.kept fun b o eo => hk b o (fun hmem => ?_) (Heap.get?_push_of_some _ eo), ?_, q⟩
  · rcases List.mem_cons.mp hmem with e1 | hmem
    · exact absurd (e1 ▸ Heap.lt_size eo) (Nat.lt_irrefl _)
    · cases hmem
  · show Value.bool _ = Value.bool _
    rw [← any_range, hb, List.size_toArray, List.length_map]
theorem cr_all (hc : X.calm = true) : CallR X (.builtin "all") (rAll X.K) := by
  intro pins s σ H vs us Q I r h
  obtain ⟨a, bs, rfl, hs, q⟩ := h
  obtain ⟨its, rv, hl, _⟩ := I.list hs
  rw [Vals.ref1 r]
  have hb := rv.bls
  refine call_all_walk (iter_any hl.isList fun s₂ e2 st hne => ?_)
  subst e2
  refine ⟨_, _, _, _, _, _, _, rfl, Walks.list (A := X.A.in1) (I.ok.hd hc) _ a hne its.toArray, st, truth_bools hb, fun h' tk hk => ?_⟩
  refine ⟨.bl _, H, I.kept fun b o eo => hk b o (fun hmem => ?_) (Heap.get?_push_of_some _ eo), ?_, q⟩
  · rcases List.mem_cons.mp hmem with e1 | hmem
    · exact absurd (e1 ▸ Heap.lt_size eo) (Nat.lt_irrefl _)
    · cases hmem
  · show Value.bool _ = Value.bool _
    rw [← all_range, hb, List.size_toArray, List.length_map]
end
mutual
inductive Dp (K : PySem.W.Frag) (H : Hp) : V → PyData → Prop
  | non : Dp K H .non .none
  | bl (b : Bool) : Dp K H (.bl b) (.bool b)
  | int (i : Int) : Dp K H (.int i) (.int i)
  | str (x : Str) : Dp K H (.str x) (.str x)
  | lst {a : Addr} {xs : List V} {ds : List PyData} : SqL K H a xs → DpAll K H xs ds → Dp K H (.ref a) (.list ds)
  | tup {a : Addr} {xs : List V} {ds : List PyData} : SqT K H a xs → DpAll K H xs ds → Dp K H (.ref a) (.tuple ds)
inductive DpAll (K : PySem.W.Frag) (H : Hp) : List V → List PyData → Prop
  | nil : DpAll K H [] []
  | cons {v : V} {vs : List V} {d : PyData} {ds : List PyData} : Dp K H v d → DpAll K H vs ds → DpAll K H (v :: vs) (d :: ds)
end
section
variable {X : Cx} {pins : List (Addr × Obj)} {σ : St} {H : Hp} {s : Shared}
mutual
theorem Dp.reads (I : Inv X pins σ H s) : ∀ (d : PyData) (v : V) (u : Value), Dp X.K H v d → RelV v u → ∃ as, Reads s.heap u d as
  | .none, _, _, h, r => by
    cases h
    cases r
    exact ⟨_, Reads.none⟩
  | .bool b, _, _, h, r => by
    cases h
    cases r
    exact ⟨_, Reads.bool b⟩
  | .int i, _, _, h, r => by
    cases h
    obtain ⟨t, rfl⟩ := r
    exact ⟨_, Reads.int i t⟩
  | .str x, _, _, h, r => by
    cases h
    obtain ⟨t, rfl⟩ := r
    exact ⟨_, Reads.str x t⟩
  | .list ds, _, _, h, r => by
    cases h with
    | lst hs ha =>
      cases r
      obtain ⟨its, rv, ⟨o, n, ho, hc, _, hd⟩, _⟩ := I.list hs
      obtain ⟨as, hr⟩ := Dp.readsAll I ds _ its ha rv
      exact ⟨_, Reads.list ho hc hd hr⟩
  | .tuple ds, _, _, h, r => by
    cases h with
    | tup hs ha =>
      cases r
      obtain ⟨its, rv, ⟨o, ho, hc, n, hd⟩, _⟩ := I.tuple hs
      obtain ⟨as, hr⟩ := Dp.readsAll I ds _ its ha rv
      exact ⟨_, Reads.tuple ho hc hd hr⟩
  | .dict _, _, _, h, _ => by cases h
theorem Dp.readsAll (I : Inv X pins σ H s) : ∀ (ds : List PyData) (vs : List V) (us : List Value), DpAll X.K H vs ds → Vals vs us → ∃ as, ReadsAll s.heap us ds as
  | [], _, _, h, r => by
    cases h
    cases r
    exact ⟨_, ReadsAll.nil⟩
  | d :: ds, _, _, h, r => by
    cases h with
    | cons h1 h2 =>
      cases r with
      | cons r1 r2 =>
        obtain ⟨as, q1⟩ := Dp.reads I d _ _ h1 r1
        obtain ⟨bs, q2⟩ := Dp.readsAll I ds _ _ h2 r2
        exact ⟨_, ReadsAll.cons q1 q2⟩
end
end
section
variable {X : Cx}
def rEqD (K : PySem.W.Frag) : R2 := fun x y H Q => ∃ d e, Dp K H x d ∧ Dp K H y e ∧ SeqAt.shaped d = true ∧ SeqAt.shaped e = true ∧ Q (.bl (PyData.eqv d e)) H
def rNeD (K : PySem.W.Frag) : R2 := fun x y H Q => ∃ d e, Dp K H x d ∧ Dp K H y e ∧ SeqAt.shaped d = true ∧ SeqAt.shaped e = true ∧ Q (.bl (!PyData.eqv d e)) H
theorem op_eqD (hu : X.A.units + 64 < cLine) : OpR X (compareOp .Eq) (rEqD X.K) := by
  intro pins s σ H x y v u Q I rx ry h
  obtain ⟨d, e, hd, he, sd, se, q⟩ := h
  obtain ⟨as, r1⟩ := Dp.reads I d x v hd rx
  obtain ⟨bs, r2⟩ := Dp.reads I e y u he ry
  exact SeqAt.compareEq_shaped r1 r2 sd se hu ⟨.bl _, H, I, rfl, q⟩
theorem op_neD (hu : X.A.units + 64 < cLine) : OpR X (compareOp .NotEq) (rNeD X.K) := by
  intro pins s σ H x y v u Q I rx ry h
  obtain ⟨d, e, hd, he, sd, se, q⟩ := h
  obtain ⟨as, r1⟩ := Dp.reads I d x v hd rx
  obtain ⟨bs, r2⟩ := Dp.reads I e y u he ry
  exact SeqAt.compareNe_shaped r1 r2 sd se hu ⟨.bl _, H, I, rfl, q⟩
end
end L2
namespace L2
open PySem PySem.Spec PyProof.Rows
abbrev CellAt (h : Heap) (c : Addr) (v : Option Value) : Prop := h.IsCell c v
def relS (scope sc : Scope) : Scope :=
  { scope with names := scope.names.map fun (n, k) => if (k == .free && sc.kind == .function && sc.names.lookup n == some .cell) then (n, .cell) else (n, k) }
def cloFrom (cells : List (Str × Addr)) : List (Str × NameKind) → List (Str × Addr) → List (Str × Addr)
  | [], acc => acc
  | (n, k) :: r, acc => if k == .free then cloFrom cells r ((n, (cells.lookup n).getD 0) :: acc) else cloFrom cells r acc
theorem closure_loop (env : Env) (f : Str × NameKind → List (Str × Addr) → Sem (ForInStep (List (Str × Addr))))
    (hf : ∀ n k c, f (n, k) c = if k == .free then (do let a ← cellOf env n; pure (.yield ((n, a) :: c))) else pure (.yield c)) :
    ∀ (names : List (Str × NameKind)) (acc : List (Str × Addr)), (∀ y ∈ names, y.2 = .free → ∃ c, env.cells.lookup y.1 = some c) → forIn names acc f = pure (cloFrom env.cells names acc)
  | [], acc, _ => by rw [List.forIn_nil]; rfl
  | (n, k) :: r, acc, h => by
    rw [List.forIn_cons, hf]
    have ih := fun acc => closure_loop env f hf r acc fun y hy => h y (List.mem_cons_of_mem _ hy)
    unfold cloFrom
    by_cases hk : (k == NameKind.free) = true
    · rw [if_pos hk, if_pos hk]
      obtain ⟨c, hc⟩ := h (n, k) List.mem_cons_self (by simpa using hk)
      have e : cellOf env n = pure c := by unfold cellOf; rw [hc]
      rw [e]
      have e2 : (env.cells.lookup n).getD 0 = c := by rw [hc]; rfl
      rw [e2]
      exact ih _
    · rw [if_neg hk, if_neg hk]
      exact ih _
theorem closure_ok {scope : Scope} {env : Env} (h : ∀ y ∈ scope.names, y.2 = .free → ∃ c, env.cells.lookup y.1 = some c) : closureFor scope env = pure (cloFrom env.cells scope.names []) := by
  simp only [closureFor]
  rw [closure_loop env _ (fun n k c => rfl) scope.names [] h]
  rfl
theorem mem_lookup {α : Type} : ∀ {l : List (Str × α)} {n : Str} {c : α}, (n, c) ∈ l → ∃ c', l.lookup n = some c'
  | (k, v) :: r, n, c, h => by
    rw [List.lookup_cons]
    cases hb : n == k with
    | true => exact ⟨_, rfl⟩
    | false =>
      rcases List.mem_cons.mp h with e | h
      · cases e; simp at hb
      · exact mem_lookup h
theorem cloFrom_mem {cells : List (Str × Addr)} : ∀ {names : List (Str × NameKind)} {acc : List (Str × Addr)} {n : Str} {c : Addr}, (n, c) ∈ cloFrom cells names acc → (n, c) ∈ acc ∨ ((n, .free) ∈ names ∧ c = (cells.lookup n).getD 0)
  | [], _, _, _, h => .inl h
  | (m, k) :: r, acc, n, c, h => by
    unfold cloFrom at h
    split at h
    · rename_i hk
      have hk : k = .free := by simpa using hk
      rcases cloFrom_mem h with h | ⟨h1, h2⟩
      · rcases List.mem_cons.mp h with e | h
        · cases e; exact .inr ⟨hk ▸ List.mem_cons_self, rfl⟩
        · exact .inl h
      · exact .inr ⟨List.mem_cons_of_mem _ h1, h2⟩
    · rcases cloFrom_mem h with h | ⟨h1, h2⟩
      · exact .inl h
      · exact .inr ⟨List.mem_cons_of_mem _ h1, h2⟩
theorem cloFrom_acc {cells : List (Str × Addr)} : ∀ {names : List (Str × NameKind)} {acc : List (Str × Addr)} {p : Str × Addr}, p ∈ acc → p ∈ cloFrom cells names acc
  | [], _, _, h => h
  | (m, k) :: r, acc, p, h => by
    unfold cloFrom
    split
    · exact cloFrom_acc (List.mem_cons_of_mem _ h)
    · exact cloFrom_acc h
theorem cloFrom_has {cells : List (Str × Addr)} : ∀ {names : List (Str × NameKind)} {acc : List (Str × Addr)} {n : Str}, (n, .free) ∈ names → (n, (cells.lookup n).getD 0) ∈ cloFrom cells names acc
  | (m, k) :: r, acc, n, h => by
    unfold cloFrom
    rcases List.mem_cons.mp h with e | h
    · cases e
      exact cloFrom_acc List.mem_cons_self
    · split
      · exact cloFrom_has h
      · exact cloFrom_has h
theorem cells_mem : ∀ {names : List (Str × NameKind)} {h : Heap} {acc : List (Str × Addr)} {x : Str} {c : Addr}, (x, c) ∈ cellsFrom h.objs.size names acc →
    (x, c) ∈ acc ∨ ((x, .cell) ∈ names ∧ h.objs.size ≤ c ∧ CellAt (pushCells h names) c none)
  | [], _, _, _, _, h => .inl h
  | (n, k) :: r, h, acc, x, c, hm => by
    unfold cellsFrom at hm
    unfold pushCells
    split at hm
    · rename_i hk
      rw [if_pos hk]
      have hk : k = .cell := by simpa using hk
      rw [← Heap.size_push h { cls := .type "cell", data := .cell none }] at hm
      rcases cells_mem hm with hm | ⟨h1, h2, h3⟩
      · rcases List.mem_cons.mp hm with e | hm
        · cases e
          exact .inr ⟨hk ▸ List.mem_cons_self, Nat.le_refl _, _, pushCells_keeps r _ _ _ (Heap.get?_push_size _ rfl), rfl⟩
        · exact .inl hm
      · rw [Heap.size_push] at h2
        exact .inr ⟨List.mem_cons_of_mem _ h1, Nat.le_of_succ_le h2, h3⟩
    · rename_i hk
      rw [if_neg hk]
      rcases cells_mem hm with hm | ⟨h1, h2, h3⟩
      · exact .inl hm
      · exact .inr ⟨List.mem_cons_of_mem _ h1, h2, h3⟩
theorem cells_acc : ∀ {names : List (Str × NameKind)} {n : Nat} {acc : List (Str × Addr)} {p : Str × Addr}, p ∈ acc → p ∈ cellsFrom n names acc
  | [], _, _, _, h => h
  | (m, k) :: r, n, acc, p, h => by
    unfold cellsFrom
    split
    · exact cells_acc (List.mem_cons_of_mem _ h)
    · exact cells_acc h
theorem cells_has : ∀ {names : List (Str × NameKind)} {n : Nat} {acc : List (Str × Addr)} {x : Str}, (x, .cell) ∈ names → ∃ c, (x, c) ∈ cellsFrom n names acc
  | (m, k) :: r, n, acc, x, h => by
    unfold cellsFrom
    rcases List.mem_cons.mp h with e | h
    · cases e
      exact ⟨n, cells_acc List.mem_cons_self⟩
    · split
      · exact cells_has h
      · exact cells_has h
theorem cells_inj : ∀ {names : List (Str × NameKind)} {h : Heap} {acc : List (Str × Addr)} {x y : Str} {c : Addr}, (∀ p ∈ acc, p.2 < h.objs.size) → (∀ x y c, (x, c) ∈ acc → (y, c) ∈ acc → x = y) →
    (x, c) ∈ cellsFrom h.objs.size names acc → (y, c) ∈ cellsFrom h.objs.size names acc → x = y
  | [], _, _, _, _, _, _, hi, h1, h2 => hi _ _ _ h1 h2
  | (n, k) :: r, h, acc, x, y, c, hl, hi, h1, h2 => by
    unfold cellsFrom at h1 h2
    split at h1
    · rename_i hk
      rw [if_pos hk] at h2
      rw [← Heap.size_push h { cls := .type "cell", data := .cell none }] at h1 h2
      refine cells_inj (h := h.push _) (fun p hp => ?_) (fun x y c a b => ?_) h1 h2
      · rw [Heap.size_push]
        rcases List.mem_cons.mp hp with rfl | hp
        · exact Nat.lt_succ_self _
        · exact Nat.lt_succ_of_lt (hl p hp)
      · rcases List.mem_cons.mp a with e | a <;> rcases List.mem_cons.mp b with e' | b
        · cases e; cases e'; rfl
        · cases e; exact absurd (hl _ b) (Nat.lt_irrefl _)
        · cases e'; exact absurd (hl _ a) (Nat.lt_irrefl _)
        · exact hi _ _ _ a b
    · rename_i hk
      rw [if_neg hk] at h2
      exact cells_inj hl hi h1 h2
theorem newEnv_comp {M : Model} {A : Around} {E : Value → Shared → Prop} {s : Shared} {scope : Scope} {globals : Addr} {closure : List (Str × Addr)} {qual : Str} {func : Option Addr} {code : Value} {around : Env} {builtins : Addr} {Q : Env → Shared → Prop}
    (h : Q (newEnv scope s.heap.objs.size globals (cellsFrom (s.heap.objs.size + 1) scope.names closure) qual func code (some around) builtins)
      { s with heap := pushCells (s.heap.push { cls := .type "dict", data := .dict #[] }) scope.names }) :
    wpAny M A (newFunctionEnv scope globals closure [] qual func code (some around) builtins) Q E s := by
  simp only [newFunctionEnv, Option.isSome_some, if_true]
  refine wpAny_bind (wpAny_alloc ?_)
  refine wpAny_bind (wpAny_layCells _ (fun n k c => rfl) scope.names closure _ _ ?_)
  rw [show ({ s with heap := s.heap.push { cls := .type "dict", data := .dict #[] } } : Shared).heap.objs.size = s.heap.objs.size + 1 from Heap.size_push ..]
  rw [List.forIn_nil]
  exact wpAny_bind (wpAny_pure (wpAny_pure h))
theorem lookup_relS {sc : Scope} : ∀ {names : List (Str × NameKind)} {x : Str} {k : NameKind},
    (names.map fun (n, k) => if (k == NameKind.free && sc.kind == .function && sc.names.lookup n == some .cell) then (n, NameKind.cell) else (n, k)).lookup x = some k →
    ∃ k', names.lookup x = some k' ∧ (k = k' ∨ (k' = .free ∧ k = .cell))
  | [], _, _, h => by simp at h
  | (n, k₀) :: r, x, k, h => by
    have ih := @lookup_relS sc r x k
    have h' : List.lookup x ((if (k₀ == NameKind.free && sc.kind == .function && sc.names.lookup n == some .cell) = true then (n, NameKind.cell) else (n, k₀)) :: (r.map _)) = some k := h
    cases hx : x == n with
    | true =>
      simp only [List.lookup_cons, hx]
      by_cases hc : (k₀ == NameKind.free && sc.kind == .function && sc.names.lookup n == some .cell) = true
      · rw [if_pos hc] at h'
        simp only [List.lookup_cons, hx] at h'
        cases h'
        simp only [Bool.and_eq_true, beq_iff_eq] at hc
        exact ⟨k₀, rfl, .inr ⟨hc.1.1, rfl⟩⟩
      · rw [if_neg hc] at h'
        simp only [List.lookup_cons, hx] at h'
        cases h'
        exact ⟨_, rfl, .inl rfl⟩
    | false =>
      simp only [List.lookup_cons, hx]
      by_cases hc : (k₀ == NameKind.free && sc.kind == .function && sc.names.lookup n == some .cell) = true
      · rw [if_pos hc] at h'
        simp only [List.lookup_cons, hx] at h'
        exact ih h'
      · rw [if_neg hc] at h'
        simp only [List.lookup_cons, hx] at h'
        exact ih h'
structure BlkOk (N : List Str) (sc scope : Scope) (own : List (Str × Nat)) : Prop where
  kind : scope.kind = .function
  uniq : ∀ y ∈ scope.names, scope.names.lookup y.1 = some y.2
  ix : ∀ p ∈ own, N[p.2]? = some p.1
  free : ∀ y ∈ scope.names, y.2 = .free → sc.names.lookup y.1 = some .cell ∨ sc.names.lookup y.1 = some .free
  own : ∀ y ∈ scope.names, y.2 = .local ∨ y.2 = .cell → y.1 ∈ own.map (·.1) ∨ y.1 ∉ N
def wipe (σ : St) : List Nat → St
  | [] => σ
  | v :: vs => (wipe σ vs).set v none
theorem wipe_length (σ : St) : ∀ vs : List Nat, (wipe σ vs).length = σ.length
  | [] => rfl
  | v :: vs => by unfold wipe; rw [List.length_set, wipe_length σ vs]
theorem wipe_some {σ : St} {i : Nat} {x : V} : ∀ {vs : List Nat}, (wipe σ vs)[i]? = some (some x) → σ[i]? = some (some x) ∧ i ∉ vs
  | [], h => ⟨h, by simp⟩
  | v :: vs, h => by
    unfold wipe at h
    by_cases hi : v = i
    · subst hi
      by_cases hv : v < (wipe σ vs).length
      · rw [List.getElem?_set_self hv] at h; cases h
      · rw [List.getElem?_eq_none (by simpa using hv)] at h; cases h
    · rw [List.getElem?_set_ne hi] at h
      obtain ⟨h1, h2⟩ := wipe_some h
      exact ⟨h1, by simp only [List.mem_cons, not_or]; exact ⟨fun e => hi e.symm, h2⟩⟩
abbrev Cx.blk (X : Cx) (s : Shared) (H : Hp) (scope : Scope) (cenv : Env) (fp : List Addr) : Cx := { X with s_0 := s, H_0 := H, env := cenv, outer := X.stack, ex := fp, fn := fun x => scope.names.lookup x == some .cell, pn := [], xe := fun _ _ => False }
section
variable {X : Cx} {pins : List (Addr × Obj)} {σ : St} {H : Hp} {s : Shared}
theorem block_start {scope : Scope} {own : List (Str × Nat)} {fp : List Addr} (I : Inv X pins σ H s) (ok : BlkOk X.N X.env.scope scope own) (hN : X.N.Nodup) (hfp : ∀ b ∈ fp, FpOk X pins H b ∧ b < s.heap.objs.size) :
    Inv (X.blk s H scope (compEnvC scope (cellsFrom (s.heap.objs.size + 1) scope.names (cloFrom X.env.cells scope.names [])) s.heap.objs.size X.env) fp) [] (wipe σ (own.map (·.2))) H { s with heap := pushCells (s.heap.push { cls := .type "dict", data := .dict #[] }) scope.names } := by
  have hfree : ∀ y ∈ scope.names, y.2 = .free → ∃ c, X.env.cells.lookup y.1 = some c := fun y hy e => by
    rcases ok.free y hy e with k | k
    · exact I.ok.has _ (.inl k)
    · exact I.ok.has _ (.inr k)
  generalize hcenv : compEnvC scope (cellsFrom (s.heap.objs.size + 1) scope.names (cloFrom X.env.cells scope.names [])) s.heap.objs.size X.env = cenv
  have kp : ∀ b o, s.heap.get? b = some o → (pushCells (s.heap.push { cls := .type "dict", data := .dict #[] }) scope.names).get? b = some o := fun b o e => pushCells_keeps _ _ _ _ (Heap.get?_push_of_some _ e)
  have hL : cenv.locals = s.heap.objs.size := by rw [← hcenv]; rfl
  have hcl : cenv.cells = cellsFrom (s.heap.objs.size + 1) scope.names (cloFrom X.env.cells scope.names []) := by rw [← hcenv]; rfl
  have hsc : cenv.scope = relS scope X.env.scope := by rw [← hcenv]; rfl
  rw [← Heap.size_push s.heap { cls := .type "dict", data := .dict #[] }] at hcl
  have cm : ∀ {y c}, (y, c) ∈ cloFrom X.env.cells scope.names [] → X.env.cells.lookup y = some c ∧ c < s.heap.objs.size := fun {y c} hm => by
    rcases cloFrom_mem hm with hm | ⟨h1, rfl⟩
    · cases hm
    · obtain ⟨c, hc⟩ := hfree _ h1 rfl
      rw [hc]
      obtain ⟨w, z⟩ := I.cell _ _ hc
      exact ⟨rfl, z.lt⟩
  have mem : ∀ {y c}, cenv.cells.lookup y = some c → (X.env.cells.lookup y = some c ∧ c < s.heap.objs.size) ∨ (s.heap.objs.size + 1 ≤ c ∧ CellAt (pushCells (s.heap.push { cls := .type "dict", data := .dict #[] }) scope.names) c none) := fun {y c} e => by
    rw [hcl] at e
    rcases cells_mem (PySem.mem_of_lookup e) with hm | ⟨_, h2, h3⟩
    · exact .inl (cm hm)
    · rw [Heap.size_push] at h2; exact .inr ⟨h2, h3⟩
  have look : ∀ {y}, scope.names.lookup y = some .free → ∃ c, cenv.cells.lookup y = some c ∧ X.env.cells.lookup y = some c := fun {y} hl => by
    have hy : (y, NameKind.free) ∈ scope.names := PySem.mem_of_lookup hl
    obtain ⟨c', e'⟩ := mem_lookup (cells_acc (names := scope.names) (n := (s.heap.push { cls := .type "dict", data := .dict #[] }).objs.size) (cloFrom_has (cells := X.env.cells) (acc := []) hy))
    rw [← hcl] at e'
    refine ⟨c', e', ?_⟩
    rw [hcl] at e'
    rcases cells_mem (PySem.mem_of_lookup e') with hm | ⟨h1, _, _⟩
    · exact (cm hm).1
    · have := ok.uniq _ h1
      rw [hl] at this; cases this
  have okB : (X.blk s H scope cenv fp).Ok := by
    refine ⟨I.ok.mod, by show cenv.scope.kind = _; rw [hsc]; exact ok.kind, by show cenv.globals = _; rw [← hcenv]; exact I.ok.glob, by show cenv.builtins = _; rw [← hcenv]; exact I.ok.blt, by show s.heap.objs.size ≤ cenv.locals; rw [hL]; exact Nat.le_refl _,
      fun y z c e1 e2 => ?_, fun y hy => ?_, fun y c z e => ?_, I.ok.hd, I.ok.frames, .inl rfl, fun b hb => ⟨?_, fun y c e z => ?_⟩, I.bs, Nat.le_trans I.ok.bsz I.sz, fun b o e hb => ?_, fun b hb z => ?_, I.stack, I.stkFree⟩
    · have e1 : cenv.cells.lookup y = some c := e1
      have e2 : cenv.cells.lookup z = some c := e2
      rw [hcl] at e1 e2
      refine cells_inj (fun p hp => ?_) (fun y z c a b => I.ok.inj y z c (cm a).1 (cm b).1) (PySem.mem_of_lookup e1) (PySem.mem_of_lookup e2)
      rw [Heap.size_push]
      exact Nat.lt_succ_of_lt (cm (y := p.1) (c := p.2) hp).2
    · show ∃ c, cenv.cells.lookup y = some c
      have key : ∀ k, cenv.kindOf y = some k → (k = .cell ∨ k = .free) → ∃ c, cenv.cells.lookup y = some c := fun k hk hk' => by
        unfold Env.kindOf at hk
        rw [hsc] at hk
        obtain ⟨k', e, r⟩ := lookup_relS hk
        have : k' = .cell ∨ k' = .free := by
          rcases r with rfl | ⟨rfl, _⟩
          · exact hk'
          · exact .inr rfl
        rcases this with rfl | rfl
        · obtain ⟨c, hm⟩ := cells_has (n := (s.heap.push { cls := .type "dict", data := .dict #[] }).objs.size) (acc := cloFrom X.env.cells scope.names []) (PySem.mem_of_lookup e)
          obtain ⟨c', e'⟩ := mem_lookup hm
          exact ⟨c', by rw [hcl]; exact e'⟩
        · obtain ⟨c, h1, _⟩ := look e
          exact ⟨c, h1⟩
      rcases hy with hy | hy
      · exact key _ hy (.inl rfl)
      · exact key _ hy (.inr rfl)
    · have z : (scope.names.lookup y == some NameKind.cell) = true := z
      have z : scope.names.lookup y = some .cell := by simpa using z
      have e : cenv.cells.lookup y = some c := e
      rw [hcl] at e
      rcases cells_mem (PySem.mem_of_lookup e) with hm | ⟨_, h2, _⟩
      · rcases cloFrom_mem hm with hm | ⟨h1, _⟩
        · cases hm
        · have q := ok.uniq _ h1
          rw [z] at q; cases q
      · rw [Heap.size_push] at h2
        exact Nat.le_of_succ_le h2
    · show b ≠ cenv.locals
      rw [hL]; exact Nat.ne_of_lt (hfp b hb).2
    · have e : cenv.cells.lookup y = some c := e
      rcases mem e with ⟨h1, _⟩ | ⟨h1, _⟩
      · exact (hfp b hb).1.2.2.2.2.1 y c h1 z
      · have h2 : s.heap.objs.size + 1 ≤ b := by rw [← z]; exact h1
        exact absurd (Nat.lt_of_lt_of_le (hfp b hb).2 (Nat.le_of_succ_le h2)) (Nat.lt_irrefl _)
    · rcases (hfp b hb).1.2.2.2.1 with z | z
      · exact I.ok.noex b o e z
      · exact absurd (Nat.lt_of_lt_of_le (Heap.lt_size e) (Nat.le_trans I.ok.bsz z)) (Nat.lt_irrefl _)
    · rcases List.mem_cons.mp (I.stkSub b z) with z | z
      · exact (hfp b hb).1.2.1 z
      · exact (hfp b hb).1.2.2.1 z
  refine ⟨okB, rfl, I.bare, Un.kept kp, ⟨fun _ => none, ?_, fun i y av e1 e2 e3 => ?_⟩, fun y c e => ?_, ?_, fun y c e => ?_, fun p hp => ?_, I.hok.kept kp, by rw [wipe_length]; exact I.len⟩
  · show Heap.Ns _ cenv.locals _
    rw [hL]
    exact Heap.Ns.keeps (Heap.Ns.new ..) fun b o e => pushCells_keeps _ _ _ _ e
  · obtain ⟨e2, hne⟩ := wipe_some e2
    have hfr : scope.names.lookup y = some .free ∧ (cenv.kindOf y = some .cell ∨ cenv.kindOf y = some .free) := by
      have key : ∀ k, cenv.scope.names.lookup y = some k → k = .local ∨ k = .cell ∨ k = .free → scope.names.lookup y = some .free ∧ (cenv.kindOf y = some .cell ∨ cenv.kindOf y = some .free) := fun k hk hk' => by
        have hk0 := hk
        rw [hsc] at hk
        obtain ⟨k', e, r⟩ := lookup_relS hk
        have no : ¬ (k' = .local ∨ k' = .cell) := fun hh => by
          rcases ok.own _ (PySem.mem_of_lookup e) hh with e' | e'
          · obtain ⟨p, hp, hpy⟩ := List.mem_map.mp e'
            have e3 := ok.ix p hp
            have : p.1 = y := hpy
            rw [this] at e3
            exact hne (List.mem_map.mpr ⟨p, hp, nodup_ix hN e3 e1⟩)
          · exact e' (List.mem_of_getElem? e1)
        rcases r with rfl | ⟨rfl, rfl⟩
        · rcases hk' with rfl | rfl | rfl
          · exact absurd (.inl rfl) no
          · exact absurd (.inr rfl) no
          · exact ⟨e, .inr hk0⟩
        · exact ⟨e, .inl hk0⟩
      have e3 : Vis cenv.scope y := e3
      rcases e3 with e3 | e3 | e3
      · exact key _ e3 (.inl rfl)
      · exact key _ e3 (.inr (.inl rfl))
      · exact key _ e3 (.inr (.inr rfl))
    obtain ⟨m, hn, hl⟩ := I.loc
    have hvis : Vis X.env.scope y := (ok.free _ (PySem.mem_of_lookup hfr.1) rfl).elim (fun k => .inr (.inl k)) (fun k => .inr (.inr k))
    obtain ⟨w, r, q⟩ := hl i y av e1 e2 hvis
    refine ⟨w, r, .inr ⟨hfr.2, ?_⟩⟩
    obtain ⟨c, h1, h2⟩ := look hfr.1
    rcases q with ⟨k, _⟩ | ⟨_, c', e', z⟩
    · have k : X.env.scope.names.lookup y = some .local := k
      rcases ok.free _ (PySem.mem_of_lookup hfr.1) rfl with k' | k' <;> rw [show X.env.scope.names.lookup y = _ from k'] at k <;> cases k
    · rw [h2] at e'; cases e'
      exact ⟨c, h1, z.keeps kp⟩
  · have e : cenv.cells.lookup y = some c := e
    rcases mem e with ⟨h1, _⟩ | ⟨_, z⟩
    · obtain ⟨w, z⟩ := I.cell y c h1
      exact ⟨w, z.keeps kp⟩
    · exact ⟨_, z⟩
  · show H cenv.locals = none
    rw [hL]; exact I.hok.fresh (Nat.le_refl _)
  · have e : cenv.cells.lookup y = some c := e
    rcases mem e with ⟨h1, _⟩ | ⟨h1, _⟩
    · exact I.freeC y c h1
    · exact I.hok.fresh (Nat.le_of_succ_le h1)
  · exact absurd (show p ∈ ([] : List (Addr × Obj)) ++ [] from hp) (by simp)
theorem app_ok {E : Value → Shared → Prop} {D : Addr} {xs : List V} {y : V} {v : Value} {Q : Value → Shared → Prop} (I : Inv X pins σ H s) (hD : H D = some (.lst xs)) (hz : xs.length < sizeLine) (r : RelV y v)
    (h : ∀ s', Inv X pins σ (upd H D (.lst (xs ++ [y]))) s' → Q .none s') : wpAny (model X.prog X.w) X.A (call (.builtin "list.append") [.ref D, v]) Q E s := by
  obtain ⟨hz', its, n, ri, e⟩ := I.hok D _ hD
  have hl := ri.length
  refine append_at (hsz := by rw [List.size_toArray]; omega) e fun h' sb ho' => ?_
  refine h { s with heap := h' } (I.write (t' := s.toks) (by rw [hD]; trivial) (.inl rfl) (fun b u hb q => (sb.2 b hb).trans q) ⟨_, ho'⟩ ⟨by rw [List.length_append]; exact hz, its ++ [v], n + 1, ri.append (.cons r .nil), ?_⟩)
  rw [ho']
  simp
def PTs (X : Cx) (ifs : List Expr) (t : TT) : Prop :=
  ∀ (pins : List (Addr × Obj)) (s : Shared) (σ : St) (H : Hp) (Q : Bool → Hp → Prop), Inv X pins σ H s → t σ H Q →
    wpAny (model X.prog X.w) X.A (forIn ifs true fun c r => if r = true then do let ok ← isTrue c X.env (eval c X.env); pure (ForInStep.yield ok) else pure (ForInStep.yield r)) (TP X pins σ Q) X.xe s
def tYes : TT := fun _ H Q => Q true H
theorem pts_nil : PTs X [] tYes := fun _ _ _ H _ I h => wpAny_tests_nil ⟨H, I, h⟩
theorem pts_one {c : Expr} {t : TT} (h : PT X c t) : PTs X [c] t := fun pins s σ H Q I hw => wpAny_tests_one (h pins s σ H Q I hw)
end
theorem thnF {α : Type} {t : Sem α} {Q Q' : α → Shared → Prop} {M : Model} {A : Around} {E : Value → Shared → Prop} {s : Shared} (h : wpAny M A t Q (fun _ _ => False) s) (hQ : ∀ a s, Q a s → Q' a s) : wpAny M A t Q' E s := wpAny_mono h hQ fun _ _ z => False.elim z
theorem compLoop_any {prog : Program} {w : World} {A : Around} {R : Result → Shared → Prop} {s : Shared} {elt target iter : Expr} {ifs : List Expr} {scope : Scope} {pos : Pos} {it acc : Value} {env : Env} (I : Nat → Shared → Prop)
    (turn : ∀ n s, I n s → wpAny (model prog w) A (pyNext it) (fun r s₁ => match r with
      | none => R (.ok .next) s₁
      | some v => wpAny (model prog w) A (letOwnedTupleGo target it v) (fun _ s₁' => wpAny (model prog w) A (assign target env v) (fun _ s₂ =>
          wpAny (model prog w) A (forIn ifs true fun c r => if r = true then do let ok ← isTrue c env (eval c env); pure (ForInStep.yield ok) else pure (ForInStep.yield r)) (fun ok s₃ =>
            if ok = true then wpAny (model prog w) A (eval elt env) (fun x s₄ =>
              wpAny (model prog w) A (call (.builtin "list.append") [acc, x]) (fun _ s₅ => ∃ m, m < n ∧ I m s₅) (notedBy (model prog w) A env fun e s' => R (.error e) s') s₄) (notedBy (model prog w) A env fun e s' => R (.error e) s') s₃
            else ∃ m, m < n ∧ I m s₃) (notedBy (model prog w) A env fun e s' => R (.error e) s') s₂) (notedBy (model prog w) A env fun e s' => R (.error e) s') s₁') (notedBy (model prog w) A env fun e s' => R (.error e) s') s₁) (notedBy (model prog w) A env fun e s' => R (.error e) s') s)
    (n : Nat) (h : I n s) :
    codeAny (model prog w) A (.compLoop (.ListComp elt [⟨target, iter, ifs, 0⟩] scope pos) 0 it acc env) R s := by
  refine codeAny_loop rfl I (fun n s hI => ?_) n h
  show wpAny _ A ((compTurn (.ListComp elt [⟨target, iter, ifs, 0⟩] scope pos) 0 it acc env).onRaise (fun x => do noteFrame x env; theTreesLotGoes x)) _ _ s
  refine wpAny_noted ?_
  rw [compTurn_list]
  refine wpAny_bind (wpAny_standAt (wpAny_bind (wpAny_mono (turn n s hI) (fun r s₁ h₁ => ?_) fun _ _ h' => h')))
  cases r with
  | none => exact wpAny_pure h₁
  | some v =>
    refine wpAny_bind (wpAny_mono h₁ (fun _ s₁' h₁' => ?_) fun _ _ h' => h')
    refine wpAny_bind (wpAny_mono h₁' (fun _ s₂ h₂ => wpAny_bind (wpAny_mono h₂ (fun ok s₃ h₃ => ?_) fun _ _ h' => h')) fun _ _ h' => h')
    cases ok with
    | false => exact wpAny_pure ⟨rfl, h₃⟩
    | true =>
      exact wpAny_bind (wpAny_bind (wpAny_mono h₃ (fun x s₄ h₄ => wpAny_bind (wpAny_mono h₄ (fun _ s₅ h₅ => wpAny_pure (wpAny_pure ⟨rfl, h₅⟩)) fun _ _ h' => h')) fun _ _ h' => h'))
section
variable {X : Cx}
def tLc (wi : TI) (g : TG) (tt : TT) (te : TE) (vs : List Nat) : TE := fun σ H Q => wi σ H fun J H1 => ∀ D, H1 D = none → ∃ W : Nat → Nat → Hp → Prop, (∃ m, W 0 m (upd H1 D (.lst []))) ∧ ∀ i m H, W i m H →
  (J.stop i H ∧ Q (.ref D) H) ∨ (J.go i H ∧ ∃ Nx : Hp → Prop, (∀ H', Nx H' → ∃ m', m' < m ∧ W (i + 1) m' H') ∧ ∀ x H', J.yld i H x H' → g x (wipe σ vs) H' fun σ2 H2 => wipe σ2 vs = wipe σ vs ∧ tt σ2 H2 fun b H3 =>
    if b = true then te σ2 H3 fun y H4 => ∃ acc, H4 D = some (.lst acc) ∧ acc.length < sizeLine ∧ Nx (upd H4 D (.lst (acc ++ [y]))) else Nx H3)
theorem lc_core {pins : List (Addr × Obj)} {s : Shared} {σ : St} {H : Hp} {Q : VK} {elt tg iter : Expr} {ifs : List Expr} {scope : Scope} {own : List (Str × Nat)} {pos pos' : Pos} {wi : TI} {g : TG} {tt : TT} {te : TE} {use : Option (Value → Sem Unit)} {Qf : Value → Shared → Prop}
    (hc : X.calm = true) (hN : X.N.Nodup) (I : Inv X pins σ H s) (hi : PI X tg iter wi) (ok : BlkOk X.N X.env.scope scope own)
    (hg : ∀ (s : Shared) (H : Hp) (C : Addr) (cl : List (Str × Addr)) (fp : List Addr), PG (X.blk s H scope (compEnvC scope cl C X.env) fp) tg g) (ht : ∀ (s : Shared) (H : Hp) (C : Addr) (cl : List (Str × Addr)) (fp : List Addr), PTs (X.blk s H scope (compEnvC scope cl C X.env) fp) ifs tt)
    (he : ∀ (s : Shared) (H : Hp) (C : Addr) (cl : List (Str × Addr)) (fp : List Addr), PE (X.blk s H scope (compEnvC scope cl C X.env) fp) elt te) (hs : ∀ x, foldedSetIterable iter X.env x = pure x)
    (h : tLc wi g tt te (own.map (·.2)) σ H Q)
    (hRR : ∀ D C s' m H', Inv X pins σ H' s' → Q (.ref D) H' → s'.heap.Ns C m → FpOk X pins H' C → compPost (model X.prog X.w) X.A X.xe use Qf (.ref D) C (.ok .next) s') :
    wpAny (model X.prog X.w) X.A (comprehension (.ListComp elt [⟨tg, iter, ifs, 0⟩] scope pos) scope X.env pos' (newList []) false (eval iter X.env) use) Qf X.xe s := by
  have hfree : ∀ y ∈ scope.names, y.2 = .free → ∃ c, X.env.cells.lookup y.1 = some c := fun y hy e => by
    rcases ok.free y hy e with k | k
    · exact I.ok.has _ (.inl k)
    · exact I.ok.has _ (.inr k)
  refine wpAny_comprehension_free (use := use) rfl hs (closure_ok hfree) ok.kind (fun y hy e => by rw [ok.uniq y hy, e])
    (thn (hi pins s σ H _ I h) fun xv s1 hx => thn hx fun itv s2 h2 => ?_)
  obtain ⟨it, fp, tn, J, H2, e, I2, T, st2, f2, q⟩ := h2
  subst e
  refine wpAny_newObj_type (newEnv_comp ?_) (by show 0 ≤ sizeLine; decide)
  generalize hD : s2.heap.objs.size = D
  have hDn : H2 D = none := I2.hok.fresh (Nat.le_of_eq hD)
  obtain ⟨W, ⟨m0, w0⟩, turn⟩ := q D hDn
  -- the new list
  generalize hs3 : ({ s2 with heap := s2.heap.push { cls := .type "list", data := .seq ([] : List Value).toArray } } : Shared) = s3
  have I3 : Inv X pins σ (upd H2 D (.lst [])) s3 := by
    rw [← hs3]
    refine I2.laid (t' := s2.toks) (fun b o e => Heap.get?_push_of_some _ e) (Nat.le_of_eq hD) ⟨Nat.zero_le _, [], 0, .nil, ?_⟩
    rw [← hD]
    exact Heap.get?_push_size _ rfl
  have h3 : s3.heap = s2.heap.push { cls := .type "list", data := .seq ([] : List Value).toArray } := by rw [← hs3]
  have sz : ∀ b ∈ fp, b < s2.heap.objs.size := fun b hb => by
    obtain ⟨o, e, _⟩ := T.obj _ _ st2 b hb
    exact Heap.lt_size e
  have f3 : ∀ b ∈ fp, FpOk X pins (upd H2 D (.lst [])) b ∧ b < s3.heap.objs.size := fun b hb => by
    have hlt := sz b hb
    refine ⟨⟨?_, (f2 b hb).2⟩, by rw [h3, Heap.size_push]; exact Nat.lt_succ_of_lt hlt⟩
    rw [upd_ne (by rw [← hD]; exact Nat.ne_of_lt hlt)]
    exact (f2 b hb).1
  have st3 : tn 0 s3.heap := T.keep _ _ _ st2 fun b _ o e => by rw [h3]; exact Heap.get?_push_of_some _ e
  have I4 := block_start I3 ok hN f3
  have pg := hg s3 (upd H2 D (.lst [])) s3.heap.objs.size (cellsFrom (s3.heap.objs.size + 1) scope.names (cloFrom X.env.cells scope.names [])) fp
  have pt := ht s3 (upd H2 D (.lst [])) s3.heap.objs.size (cellsFrom (s3.heap.objs.size + 1) scope.names (cloFrom X.env.cells scope.names [])) fp
  have pe := he s3 (upd H2 D (.lst [])) s3.heap.objs.size (cellsFrom (s3.heap.objs.size + 1) scope.names (cloFrom X.env.cells scope.names [])) fp
  show codeAny _ _ (.compStart (.ListComp elt [⟨tg, iter, ifs, 0⟩] scope pos) 0 (.ref it) (.ref D) (compEnvC scope (cellsFrom (s3.heap.objs.size + 1) scope.names (cloFrom X.env.cells scope.names [])) s3.heap.objs.size X.env)) (compPost (model X.prog X.w) X.A X.xe use Qf (.ref D) s3.heap.objs.size) { s3 with heap := pushCells (s3.heap.push { cls := .type "dict", data := .dict #[] }) scope.names }
  have nfp : ∀ b ∈ fp, (upd H2 D (.lst [])) b = none := fun b hb => (f3 b hb).1.1
  generalize hce : compEnvC scope (cellsFrom (s3.heap.objs.size + 1) scope.names (cloFrom X.env.cells scope.names [])) s3.heap.objs.size X.env = ce at I4 pg pt pe ⊢
  have cL : ce.locals = s3.heap.objs.size := by subst hce; rfl
  generalize hH3 : upd H2 D (.lst []) = H3 at I3 I4 pg pt pe w0 nfp f3
  generalize hs4 : ({ s3 with heap := pushCells (s3.heap.push { cls := .type "dict", data := .dict #[] }) scope.names } : Shared) = s4 at I4 ⊢
  have st4 : tn 0 s4.heap := T.keep _ _ _ st3 fun b _ o e => by rw [← hs4]; exact pushCells_keeps _ _ _ _ (Heap.get?_push_of_some _ e)
  have stat : ∀ {σ' : St} {H' : Hp} {s' : Shared}, Inv (X.blk s3 H3 scope ce fp) [] σ' H' s' → (∀ b ∈ fp, H' b = none) → ∀ b ∈ fp, FpOk (X.blk s3 H3 scope ce fp) [] H' b := fun {σ' H' s'} I' hn b hb =>
    ⟨hn b hb, (I'.ok.exf b hb).1, I'.ok.exfs b hb, .inl hb, fun x c e => (I'.ok.exf b hb).2 x c e, fun p hp => absurd (show p ∈ ([] : List (Addr × Obj)) ++ [] from hp) (by simp)⟩
  have loop : codeAny (model X.prog X.w) X.A (.compLoop (.ListComp elt [⟨tg, iter, ifs, 0⟩] scope pos) 0 (.ref it) (.ref D) ce) (compPost (model X.prog X.w) X.A X.xe use Qf (.ref D) s3.heap.objs.size) s4 := by
    refine compLoop_any (fun n s' => ∃ i H', Inv (X.blk s3 H3 scope ce fp) [] (wipe σ (own.map (·.2))) H' s' ∧ tn i s'.heap ∧ (∀ b ∈ fp, H' b = none) ∧ W i n H') ?_ m0 ⟨0, H3, I4, st4, nfp, w0⟩
    rintro n s5 ⟨i, H5, I5, st5, n5, w5⟩
    rcases turn i n H5 w5 with ⟨stop, qq⟩ | ⟨go, Nx, hNx, step⟩
    · have td := T.done (X.blk s3 H3 scope ce fp) rfl rfl rfl hc i [] s5 _ H5 (fun _ _ => False) I5 (stat I5 n5) st5 stop
      refine thnF td fun r s6 ⟨hr, I6⟩ => ?_
      subst hr
      -- back in the def's context
      have I7 : Inv X pins σ H5 s6 := I3.call' (ch := fp) I6.os I6.base I6.hok I6.bare fun b hb => ⟨(f3 b hb).1.2.2.2.1, (f3 b hb).1.2.1, (f3 b hb).1.2.2.2.2.1, (f3 b hb).1.2.2.2.2.2⟩
      have nC : H5 s3.heap.objs.size = none := by
        have z : H5 ce.locals = none := I6.free
        rw [cL] at z
        exact z
      obtain ⟨m, hn, _⟩ := I6.loc
      have hn : s6.heap.Ns ce.locals m := hn
      rw [cL] at hn
      exact hRR D s3.heap.objs.size s6 m H5 I7 qq hn (I3.fpOk (Nat.le_refl _) nC)
    · have ti := T.item (X.blk s3 H3 scope ce fp) rfl rfl rfl hc i [] s5 _ H5 (fun _ _ => False) I5 (stat I5 n5) st5 go
      refine thnF ti fun r s6 ⟨u, hr, h6⟩ => ?_
      subst hr
      refine thnF h6 fun _ s7 ⟨x, H7, I7, r7, y7, st7, n7⟩ => ?_
      have I7' := I7.pinned (stat I7 n7) (T.obj _ _ st7)
      refine thnF (pg _ s7 _ H7 x u _ I7' r7 (step x H7 y7)) fun _ s8 ⟨σ8, H8, I8, hw8, q8⟩ => ?_
      refine thnF (pt _ s8 σ8 H8 _ I8 q8) fun b s9 ⟨H9, I9, q9⟩ => ?_
      -- the turn's end
      have fin : ∀ {s' : Shared} {H' : Hp}, Inv (X.blk s3 H3 scope ce fp) ([] ++ pinsAt fp s7.heap) σ8 H' s' → Nx H' → ∃ m, m < n ∧ ∃ i H', Inv (X.blk s3 H3 scope ce fp) [] (wipe σ (own.map (·.2))) H' s' ∧ tn i s'.heap ∧ (∀ b ∈ fp, H' b = none) ∧ W i m H' := fun {s' H'} I' nx => by
        obtain ⟨m', hm, w'⟩ := hNx H' nx
        have pin' : ∀ b ∈ fp, ∀ o, s7.heap.get? b = some o → s'.heap.get? b = some o ∧ H' b = none := fun b hb o e =>
          let z := I'.pin (b, o) (List.mem_append_right _ (List.mem_append_right _ (mem_pinsAt hb e)))
          ⟨z.1, z.2.1⟩
        have hl : (wipe σ (own.map (·.2))).length = σ8.length := by rw [← hw8, wipe_length]
        refine ⟨m', hm, i + 1, H', (I'.unpinned (pins := [])).weak hl (fun j v e => ?_), T.keep _ _ _ st7 fun b hb o e => (pin' b hb o e).1, fun b hb => ?_, w'⟩
        · rw [← hw8] at e
          exact (wipe_some e).1
        · obtain ⟨o, e, _⟩ := T.obj _ _ st7 b hb
          exact (pin' b hb o e).2
      cases b with
      | false =>
        simp only [Bool.false_eq_true, if_false] at q9 ⊢
        exact fin I9 q9
      | true =>
        simp only [if_true] at q9 ⊢
        refine thnF (pe _ s9 σ8 H9 _ I9 q9) fun z s10 ⟨yv, H10, I10, r10, acc, hD10, hz10, nx⟩ => ?_
        exact app_ok (X := X.blk s3 H3 scope ce fp) I10 hD10 hz10 r10 fun s11 I11 => fin I11 nx
  exact codeAny_compStart_list loop (T.self X.A 0 _ _ _ st4 loop)
theorem pe_lc {elt tg iter : Expr} {ifs : List Expr} {scope : Scope} {own : List (Str × Nat)} {pos : Pos} {wi : TI} {g : TG} {tt : TT} {te : TE} (hc : X.calm = true) (hN : X.N.Nodup) (hi : PI X tg iter wi) (ok : BlkOk X.N X.env.scope scope own)
    (hg : ∀ (s : Shared) (H : Hp) (C : Addr) (cl : List (Str × Addr)) (fp : List Addr), PG (X.blk s H scope (compEnvC scope cl C X.env) fp) tg g) (ht : ∀ (s : Shared) (H : Hp) (C : Addr) (cl : List (Str × Addr)) (fp : List Addr), PTs (X.blk s H scope (compEnvC scope cl C X.env) fp) ifs tt)
    (he : ∀ (s : Shared) (H : Hp) (C : Addr) (cl : List (Str × Addr)) (fp : List Addr), PE (X.blk s H scope (compEnvC scope cl C X.env) fp) elt te) (hs : ∀ x, foldedSetIterable iter X.env x = pure x := by intro _; rfl) :
    PE X (.ListComp elt [⟨tg, iter, ifs, 0⟩] scope pos) (tLc wi g tt te (own.map (·.2))) := by
  intro pins s σ H Q I h
  rw [eval_ListComp]
  refine lc_core hc hN I hi ok hg ht he hs h fun D C s' m H' I' q hn f => ⟨m, hn, fun h'' sb => ?_⟩
  obtain ⟨f0, f1, f2, f3, f4, f5⟩ := f
  exact ⟨.ref D, H', I'.turned (t' := s'.toks) (fun b o hb e => (sb.2 b hb).trans e) f0 f1 f3 f4 f5, rfl, q⟩
theorem ps_setLc {i : Nat} {y : Str} {py : Pos} {elt tg iter : Expr} {ifs : List Expr} {scope : Scope} {own : List (Str × Nat)} {pos spos : Pos} {wi : TI} {g : TG} {tt : TT} {te : TE} (hc : X.calm = true) (hN : X.N.Nodup) (hy : X.N[i]? = some y) (hyl : X.env.scope.names.lookup y = some .local)
    (hsw : swapsWith (.ListComp elt [⟨tg, iter, ifs, 0⟩] scope pos) (some (.Name y py)) spos.line X.env = pure true) (hi : PI X tg iter wi) (ok : BlkOk X.N X.env.scope scope own)
    (hg : ∀ (s : Shared) (H : Hp) (C : Addr) (cl : List (Str × Addr)) (fp : List Addr), PG (X.blk s H scope (compEnvC scope cl C X.env) fp) tg g) (ht : ∀ (s : Shared) (H : Hp) (C : Addr) (cl : List (Str × Addr)) (fp : List Addr), PTs (X.blk s H scope (compEnvC scope cl C X.env) fp) ifs tt)
    (he : ∀ (s : Shared) (H : Hp) (C : Addr) (cl : List (Str × Addr)) (fp : List Addr), PE (X.blk s H scope (compEnvC scope cl C X.env) fp) elt te) (hs : ∀ x, foldedSetIterable iter X.env x = pure x := by intro _; rfl) :
    PS X (.Assign [.Name y py] (.ListComp elt [⟨tg, iter, ifs, 0⟩] scope pos) spos) (tAsg (tLc wi g tt te (own.map (·.2))) (gName i)) := by
  intro pins s σ H D I h
  rw [exec_Assign_Name_used _ _ _ _ hsw]
  refine wpAny_bind (wpAny_standAt (wpAny_bind ?_))
  show wpAny _ X.A (do let _ ← comprehension (.ListComp elt [⟨tg, iter, ifs, 0⟩] scope pos) scope X.env (firstIterPos [⟨tg, iter, ifs, 0⟩] pos) (newList []) false (eval iter X.env) (some (assign (.Name y py) X.env))) _ _ s
  have h : tLc wi g tt te (own.map (·.2)) σ H (fun x H1 => gName i x σ H1 D.nx) := h
  refine wpAny_bind (thn (lc_core (Qf := fun _ s' => SP X pins D .next s') hc hN I hi ok hg ht he hs h fun L C s' m H' I' q hn f => ?_) fun _ s' hq => wpAny_pure (wpAny_pure hq))
  show wpAny _ _ (assign (.Name y py) X.env (.ref L)) _ _ _
  refine wpAny_assign_Name (store_ok2 (v := V.ref L) I' hN hy (.inl hyl) rfl (fun s2 I2 ⟨a, sb, ha⟩ => ?_) (.inr hyl))
  obtain ⟨f0, f1, f2, f3, f4, f5⟩ := f
  have haC : C ≠ a := by
    rcases ha with z | z
    · rw [z]; exact f1
    · exact fun e => f4 y a z e.symm
  refine ⟨m, hn.sameBut sb haC, fun h3 sb3 => ?_⟩
  exact ⟨_, H', I2.turned (t' := s2.toks) (fun b o hb e => (sb3.2 b hb).trans e) f0 f1 f3 f4 f5, q⟩
theorem sw_true {elt : Expr} {gs : List Comprehension} {scope : Scope} {pos py : Pos} {y : Str} {l : Nat} {env : Env} (hk : env.scope.kind = .function) (hy : env.scope.names.lookup y = some .local) (hl : (py.line == pos.line) = true)
    (ha : (scope.names.any fun (n, k) => n == y && (k == .local || k == .cell)) = false) : swapsWith (.ListComp elt gs scope pos) (some (.Name y py)) l env = pure true := by
  have ky : env.kindOf y = some .local := hy
  have hb : env.blockKind = .function := by unfold Env.blockKind; rw [hk]; rfl
  unfold swapsWith
  simp only [hb, ky, ha, Expr.pos, hl]
  rfl
end
theorem lc_range {lo : Int} {n : Nat} {g : TG} {tt : TT} {te : TE} {vs : List Nat} {σ : St} {H1 : Hp} {D : Addr} {Qd : Hp → Prop} (Pv : Nat → Hp → Prop) (h0 : Pv 0 (upd H1 D (.lst [])))
    (hs : ∀ i H, i < n → Pv i H → g (.int (lo + i)) (wipe σ vs) H fun σ2 H2 => wipe σ2 vs = wipe σ vs ∧ tt σ2 H2 fun b H3 =>
      if b = true then te σ2 H3 fun y H4 => ∃ acc, H4 D = some (.lst acc) ∧ acc.length < sizeLine ∧ Pv (i + 1) (upd H4 D (.lst (acc ++ [y]))) else Pv (i + 1) H3) (hd : ∀ H, Pv n H → Qd H) :
    ∃ W : Nat → Nat → Hp → Prop, (∃ m, W 0 m (upd H1 D (.lst []))) ∧ ∀ i m H, W i m H →
      ((Itr lo n).stop i H ∧ Qd H) ∨ ((Itr lo n).go i H ∧ ∃ Nx : Hp → Prop, (∀ H', Nx H' → ∃ m', m' < m ∧ W (i + 1) m' H') ∧ ∀ x H', (Itr lo n).yld i H x H' → g x (wipe σ vs) H' fun σ2 H2 => wipe σ2 vs = wipe σ vs ∧ tt σ2 H2 fun b H3 =>
        if b = true then te σ2 H3 fun y H4 => ∃ acc, H4 D = some (.lst acc) ∧ acc.length < sizeLine ∧ Nx (upd H4 D (.lst (acc ++ [y]))) else Nx H3) := by
  refine ⟨fun i m H => m = n - i ∧ i ≤ n ∧ Pv i H, ⟨n, by simp, Nat.zero_le _, h0⟩, ?_⟩
  rintro i m H ⟨rfl, hi, p⟩
  by_cases hlt : i < n
  · refine .inr ⟨hlt, Pv (i + 1), fun H' p' => ⟨n - (i + 1), by omega, rfl, hlt, p'⟩, fun x H' y => ?_⟩
    obtain ⟨e, y⟩ := y
    subst e y
    exact hs i _ hlt p
  · have e : i = n := by omega
    subst e
    exact .inl ⟨Nat.le_refl _, hd H p⟩
theorem lc_list {K : PySem.W.Frag} {a : Addr} {xs : List V} {g : TG} {tt : TT} {te : TE} {vs : List Nat} {σ : St} {H1 : Hp} {D : Addr} {Qd : Hp → Prop} (Pv : Nat → Hp → Prop) (h0 : Pv 0 (upd H1 D (.lst []))) (hl : ∀ i H, i ≤ xs.length → Pv i H → SqL K H a xs)
    (hs : ∀ i x H, xs[i]? = some x → Pv i H → g x (wipe σ vs) H fun σ2 H2 => wipe σ2 vs = wipe σ vs ∧ tt σ2 H2 fun b H3 =>
      if b = true then te σ2 H3 fun y H4 => ∃ acc, H4 D = some (.lst acc) ∧ acc.length < sizeLine ∧ Pv (i + 1) (upd H4 D (.lst (acc ++ [y]))) else Pv (i + 1) H3) (hd : ∀ H, Pv xs.length H → Qd H) :
    ∃ W : Nat → Nat → Hp → Prop, (∃ m, W 0 m (upd H1 D (.lst []))) ∧ ∀ i m H, W i m H →
      ((Itl K a).stop i H ∧ Qd H) ∨ ((Itl K a).go i H ∧ ∃ Nx : Hp → Prop, (∀ H', Nx H' → ∃ m', m' < m ∧ W (i + 1) m' H') ∧ ∀ x H', (Itl K a).yld i H x H' → g x (wipe σ vs) H' fun σ2 H2 => wipe σ2 vs = wipe σ vs ∧ tt σ2 H2 fun b H3 =>
        if b = true then te σ2 H3 fun y H4 => ∃ acc, H4 D = some (.lst acc) ∧ acc.length < sizeLine ∧ Nx (upd H4 D (.lst (acc ++ [y]))) else Nx H3) := by
  refine ⟨fun i m H => m = xs.length - i ∧ i ≤ xs.length ∧ Pv i H, ⟨xs.length, by simp, Nat.zero_le _, h0⟩, ?_⟩
  rintro i m H ⟨rfl, hi, p⟩
  have q := hl i H hi p
  by_cases hlt : i < xs.length
  · refine .inr ⟨⟨xs, xs[i], q, by simp [hlt]⟩, Pv (i + 1), fun H' p' => ⟨xs.length - (i + 1), by omega, rfl, hlt, p'⟩, fun x H' y => ?_⟩
    obtain ⟨e, y⟩ := y
    subst e
    exact hs i x _ (y xs q) p
  · have e : i = xs.length := by omega
    subst e
    exact .inl ⟨⟨xs, q, Nat.le_refl _⟩, hd H p⟩
def blkC (N : List Str) (sc scope : Scope) (own : List (Str × Nat)) : Bool :=
  (match scope.kind with | .function => true | _ => false) && (scope.names.all fun y => decide (scope.names.lookup y.1 = some y.2)) && (own.all fun p => decide (N[p.2]? = some p.1)) &&
    (scope.names.all fun y => match y.2 with
      | .free => (match sc.names.lookup y.1 with | some .cell => true | some .free => true | _ => false)
      | .local => decide (y.1 ∈ own.map (·.1)) || decide (y.1 ∉ N)
      | .cell => decide (y.1 ∈ own.map (·.1)) || decide (y.1 ∉ N)
      | _ => true)
theorem blkOk_by {N : List Str} {sc scope : Scope} {own : List (Str × Nat)} (h : blkC N sc scope own = true) : BlkOk N sc scope own := by
  unfold blkC at h
  simp only [Bool.and_eq_true, List.all_eq_true, decide_eq_true_eq] at h
  obtain ⟨⟨⟨h1, h2⟩, h3⟩, h4⟩ := h
  refine ⟨?_, h2, h3, fun y hy e => ?_, fun y hy e => ?_⟩
  · split at h1
    · assumption
    · cases h1
  · have q := h4 y hy
    simp only [e] at q
    split at q <;> first | exact .inl (by assumption) | exact .inr (by assumption) | cases q
  · have q := h4 y hy
    rcases e with e | e <;> (simp only [e, Bool.or_eq_true, decide_eq_true_eq] at q; exact q)
end L2
namespace L2
open PySem PySem.Spec PyProof.Rows
theorem compTurn2_out (elt t0 i0 t1 i1 : Expr) (ifs0 ifs1 : List Expr) (scope : Scope) (pos : Pos) (it acc : Value) (env : Env) :
    compTurn (.ListComp elt [⟨t0, i0, ifs0, 0⟩, ⟨t1, i1, ifs1, 0⟩] scope pos) 0 it acc env = (do
      standAt i0.pos
      match ← pyNext it with
      | none => pure (.done .next)
      | some v =>
        letOwnedTupleGo t0 it v
        assign t0 env v
        let mut ok := true
        for c in ifs0 do
          if ok then ok ← isTrue c env (eval c env)
        if ok then
          let x ← eval i1 env
          standAt i1.pos
          let x ← foldedSetIterable i1 env x
          let _ ← runOwn (.compStart (.ListComp elt [⟨t0, i0, ifs0, 0⟩, ⟨t1, i1, ifs1, 0⟩] scope pos) 1 (← holding [x] (pyIter x)) acc env) env
        again (.compLoop (.ListComp elt [⟨t0, i0, ifs0, 0⟩, ⟨t1, i1, ifs1, 0⟩] scope pos) 0 it acc env)) := by rfl
theorem compTurn2_in (elt t0 i0 t1 i1 : Expr) (ifs0 ifs1 : List Expr) (scope : Scope) (pos : Pos) (it acc : Value) (env : Env) :
    compTurn (.ListComp elt [⟨t0, i0, ifs0, 0⟩, ⟨t1, i1, ifs1, 0⟩] scope pos) 1 it acc env = (do
      standAt i1.pos
      match ← pyNext it with
      | none => pure (.done .next)
      | some v =>
        letOwnedTupleGo t1 it v
        assign t1 env v
        let mut ok := true
        for c in ifs1 do
          if ok then ok ← isTrue c env (eval c env)
        if ok then
          (do let _ ← call (.builtin "list.append") [acc, ← eval elt env])
        again (.compLoop (.ListComp elt [⟨t0, i0, ifs0, 0⟩, ⟨t1, i1, ifs1, 0⟩] scope pos) 1 it acc env)) := by rfl
section
variable {prog : Program} {w : World} {A : Around} {R : Result → Shared → Prop} {s : Shared} {elt t0 i0 t1 i1 : Expr} {ifs0 ifs1 : List Expr} {scope : Scope} {pos : Pos} {it acc : Value} {env : Env}
theorem compLoop2_out (hs : ∀ x, foldedSetIterable i1 env x = pure x) (I : Nat → Shared → Prop)
    (turn : ∀ n s, I n s → wpAny (model prog w) A (pyNext it) (fun r s₁ => match r with
      | none => R (.ok .next) s₁
      | some v => wpAny (model prog w) A (letOwnedTupleGo t0 it v) (fun _ s₁' => wpAny (model prog w) A (assign t0 env v) (fun _ s₂ =>
          wpAny (model prog w) A (forIn ifs0 true fun c r => if r = true then do let ok ← isTrue c env (eval c env); pure (ForInStep.yield ok) else pure (ForInStep.yield r)) (fun ok s₃ =>
            if ok = true then wpAny (model prog w) A (eval i1 env) (fun x s₄ => wpAny (model prog w) A (pyIter x) (fun it1 s₅ =>
              codeAny (model prog w) A (.compStart (.ListComp elt [⟨t0, i0, ifs0, 0⟩, ⟨t1, i1, ifs1, 0⟩] scope pos) 1 it1 acc env) (fun r s' => match r with
                | .ok _ => ∃ m, m < n ∧ I m s'
                | .error _ => False) s₅) (notedBy (model prog w) A env fun e s' => R (.error e) s') s₄) (notedBy (model prog w) A env fun e s' => R (.error e) s') s₃
            else ∃ m, m < n ∧ I m s₃) (notedBy (model prog w) A env fun e s' => R (.error e) s') s₂) (notedBy (model prog w) A env fun e s' => R (.error e) s') s₁') (notedBy (model prog w) A env fun e s' => R (.error e) s') s₁) (notedBy (model prog w) A env fun e s' => R (.error e) s') s)
    (n : Nat) (h : I n s) :
    codeAny (model prog w) A (.compLoop (.ListComp elt [⟨t0, i0, ifs0, 0⟩, ⟨t1, i1, ifs1, 0⟩] scope pos) 0 it acc env) R s := by
  refine codeAny_loop rfl I (fun n s hI => ?_) n h
  show wpAny _ A ((compTurn (.ListComp elt [⟨t0, i0, ifs0, 0⟩, ⟨t1, i1, ifs1, 0⟩] scope pos) 0 it acc env).onRaise (fun x => do noteFrame x env; theTreesLotGoes x)) _ _ s
  refine wpAny_noted ?_
  rw [compTurn2_out]
  refine wpAny_bind (wpAny_standAt (wpAny_bind (wpAny_mono (turn n s hI) (fun r s₁ h₁ => ?_) fun _ _ h' => h')))
  cases r with
  | none => exact wpAny_pure h₁
  | some v =>
    refine wpAny_bind (wpAny_mono h₁ (fun _ s₁' h₁' => ?_) fun _ _ h' => h')
    refine wpAny_bind (wpAny_mono h₁' (fun _ s₂ h₂ => wpAny_bind (wpAny_mono h₂ (fun ok s₃ h₃ => ?_) fun _ _ h' => h')) fun _ _ h' => h')
    cases ok with
    | false => exact wpAny_pure ⟨rfl, h₃⟩
    | true =>
      refine wpAny_bind (wpAny_mono h₃ (fun x s₄ h₄ => ?_) fun _ _ h' => h')
      refine wpAny_bind (wpAny_standAt (wpAny_bind (wpAny_of_eq (hs x) (wpAny_bind (wpAny_holding (wpAny_mono h₄ (fun it1 s₅ h₅ => ?_) fun _ _ h' => h'))))))
      refine wpAny_bind (wpAny_runOwn ?_)
      rw [Around.mark_none]
      refine codeAny_mono h₅ fun r s' hr => ?_
      cases r with
      | ok f =>
        first
          | exact wpAny_pure ⟨rfl, hr⟩
          | exact wpAny_bind (wpAny_pure (wpAny_pure ⟨rfl, hr⟩))
      | error e => exact hr.elim
theorem compLoop2_in (I : Nat → Shared → Prop)
    (turn : ∀ n s, I n s → wpAny (model prog w) A (pyNext it) (fun r s₁ => match r with
      | none => R (.ok .next) s₁
      | some v => wpAny (model prog w) A (letOwnedTupleGo t1 it v) (fun _ s₁' => wpAny (model prog w) A (assign t1 env v) (fun _ s₂ =>
          wpAny (model prog w) A (forIn ifs1 true fun c r => if r = true then do let ok ← isTrue c env (eval c env); pure (ForInStep.yield ok) else pure (ForInStep.yield r)) (fun ok s₃ =>
            if ok = true then wpAny (model prog w) A (eval elt env) (fun x s₄ =>
              wpAny (model prog w) A (call (.builtin "list.append") [acc, x]) (fun _ s₅ => ∃ m, m < n ∧ I m s₅) (notedBy (model prog w) A env fun e s' => R (.error e) s') s₄) (notedBy (model prog w) A env fun e s' => R (.error e) s') s₃
            else ∃ m, m < n ∧ I m s₃) (notedBy (model prog w) A env fun e s' => R (.error e) s') s₂) (notedBy (model prog w) A env fun e s' => R (.error e) s') s₁') (notedBy (model prog w) A env fun e s' => R (.error e) s') s₁) (notedBy (model prog w) A env fun e s' => R (.error e) s') s)
    (n : Nat) (h : I n s) :
    codeAny (model prog w) A (.compLoop (.ListComp elt [⟨t0, i0, ifs0, 0⟩, ⟨t1, i1, ifs1, 0⟩] scope pos) 1 it acc env) R s := by
  refine codeAny_loop rfl I (fun n s hI => ?_) n h
  show wpAny _ A ((compTurn (.ListComp elt [⟨t0, i0, ifs0, 0⟩, ⟨t1, i1, ifs1, 0⟩] scope pos) 1 it acc env).onRaise (fun x => do noteFrame x env; theTreesLotGoes x)) _ _ s
  refine wpAny_noted ?_
  rw [compTurn2_in]
  refine wpAny_bind (wpAny_standAt (wpAny_bind (wpAny_mono (turn n s hI) (fun r s₁ h₁ => ?_) fun _ _ h' => h')))
  cases r with
  | none => exact wpAny_pure h₁
  | some v =>
    refine wpAny_bind (wpAny_mono h₁ (fun _ s₁' h₁' => ?_) fun _ _ h' => h')
    refine wpAny_bind (wpAny_mono h₁' (fun _ s₂ h₂ => wpAny_bind (wpAny_mono h₂ (fun ok s₃ h₃ => ?_) fun _ _ h' => h')) fun _ _ h' => h')
    cases ok with
    | false => exact wpAny_pure ⟨rfl, h₃⟩
    | true =>
      exact wpAny_bind (wpAny_bind (wpAny_mono h₃ (fun x s₄ h₄ => wpAny_bind (wpAny_mono h₄ (fun _ s₅ h₅ => wpAny_pure (wpAny_pure ⟨rfl, h₅⟩)) fun _ _ h' => h')) fun _ _ h' => h'))
theorem compStart1_ok (h0 : codeAny (model prog w) A (.compLoop (.ListComp elt [⟨t0, i0, ifs0, 0⟩, ⟨t1, i1, ifs1, 0⟩] scope pos) 1 it acc env) R s)
    (h : wpAny (model prog w) A (pyIter it) (fun it' s' => codeAny (model prog w) A (.compLoop (.ListComp elt [⟨t0, i0, ifs0, 0⟩, ⟨t1, i1, ifs1, 0⟩] scope pos) 1 it' acc env) R s')
      (notedBy (model prog w) A env fun x s' => R (.error x) s') s) :
    codeAny (model prog w) A (.compStart (.ListComp elt [⟨t0, i0, ifs0, 0⟩, ⟨t1, i1, ifs1, 0⟩] scope pos) 1 it acc env) R s := by
  refine codeAny_of_tree ?_
  show wpAny _ _ ((compStart (.ListComp elt [⟨t0, i0, ifs0, 0⟩, ⟨t1, i1, ifs1, 0⟩] scope pos) 1 it acc env).onRaise (fun x => do noteFrame x env; standAt theWindowsPlace)) _ _ s
  refine wpAny_notedAt ?_
  unfold compStart
  show wpAny _ _ (ask >>= _) _ _ s
  refine wpAny_bind (wpAny_askSetting (wpAny_ite ?_))
  split
  · first
      | exact wpAny_bind (wpAny_pure (wpAny_pure (And.intro rfl h0)))
      | exact wpAny_pure (And.intro rfl h0)
  · first
      | exact wpAny_bind (wpAny_rule (wpAny_bind (wpAny_standAt (wpAny_bind (wpAny_mono h (fun it' s' h' => wpAny_pure (And.intro rfl h')) fun _ _ x => x)))))
      | (refine wpAny_bind (wpAny_rule ?_); show wpAny _ _ (standAt i1.pos >>= _) _ _ s; exact wpAny_bind (wpAny_standAt (wpAny_bind (wpAny_mono h (fun it' s' h' => wpAny_pure (And.intro rfl h')) fun _ _ x => x))))
end
theorem wipe_out {σ : St} {i : Nat} : ∀ {vs : List Nat}, i ∉ vs → (wipe σ vs)[i]? = σ[i]?
  | [], _ => rfl
  | v :: vs, h => by
    have h1 : v ≠ i := fun e => h (by rw [e]; exact List.mem_cons_self)
    have h2 : i ∉ vs := fun m => h (List.mem_cons_of_mem _ m)
    unfold wipe
    rw [List.getElem?_set_ne h1]
    exact wipe_out h2
section
variable {X : Cx}
def tLc2 (wi : TI) (g : TG) (tt : TT) (wi1 : TI) (g1 : TG) (tt1 : TT) (te : TE) (vs vs1 : List Nat) : TE := fun σ H Q => wi σ H fun J H1 => ∀ D, H1 D = none → ∃ W : Nat → Nat → Hp → Prop, (∃ m, W 0 m (upd H1 D (.lst []))) ∧ ∀ i m H, W i m H →
  (J.stop i H ∧ Q (.ref D) H) ∨ (J.go i H ∧ ∃ Nx : Hp → Prop, (∀ H', Nx H' → ∃ m', m' < m ∧ W (i + 1) m' H') ∧ ∀ x H', J.yld i H x H' → g x (wipe σ vs) H' fun σ2 H2 => wipe σ2 vs = wipe σ vs ∧ tt σ2 H2 fun b H3 =>
    if b = true then wi1 σ2 H3 fun J1 H4 => ∃ W1 : Nat → Nat → Hp → Prop, (∃ m, W1 0 m H4) ∧ ∀ j k H, W1 j k H →
      (J1.stop j H ∧ Nx H) ∨ (J1.go j H ∧ ∃ Nx1 : Hp → Prop, (∀ H', Nx1 H' → ∃ k', k' < k ∧ W1 (j + 1) k' H') ∧ ∀ x H', J1.yld j H x H' → g1 x (wipe σ2 vs1) H' fun σ3 H5 => wipe σ3 vs1 = wipe σ2 vs1 ∧ tt1 σ3 H5 fun b H6 =>
        if b = true then te σ3 H6 fun y H7 => ∃ acc, H7 D = some (.lst acc) ∧ acc.length < sizeLine ∧ Nx1 (upd H7 D (.lst (acc ++ [y]))) else Nx1 H6)
    else Nx H3)
theorem lc2_core {pins : List (Addr × Obj)} {s : Shared} {σ : St} {H : Hp} {Q : VK} {elt tg iter tg1 iter1 : Expr} {ifs ifs1 : List Expr} {scope : Scope} {own : List (Str × Nat)} {vs1 : List Nat} {pos pos' : Pos} {wi wi1 : TI} {g g1 : TG} {tt tt1 : TT} {te : TE} {use : Option (Value → Sem Unit)} {Qf : Value → Shared → Prop}
    (hc : X.calm = true) (hN : X.N.Nodup) (I : Inv X pins σ H s) (hi : PI X tg iter wi) (ok : BlkOk X.N X.env.scope scope own) (hv : ∀ i ∈ vs1, i ∈ own.map (·.2))
    (hg : ∀ (s : Shared) (H : Hp) (C : Addr) (cl : List (Str × Addr)) (fp : List Addr), PG (X.blk s H scope (compEnvC scope cl C X.env) fp) tg g) (ht : ∀ (s : Shared) (H : Hp) (C : Addr) (cl : List (Str × Addr)) (fp : List Addr), PTs (X.blk s H scope (compEnvC scope cl C X.env) fp) ifs tt)
    (he : ∀ (s : Shared) (H : Hp) (C : Addr) (cl : List (Str × Addr)) (fp : List Addr), PE (X.blk s H scope (compEnvC scope cl C X.env) fp) elt te) (hs : ∀ x, foldedSetIterable iter X.env x = pure x)
    (hi1 : ∀ (s : Shared) (H : Hp) (C : Addr) (cl : List (Str × Addr)) (fp : List Addr), PI (X.blk s H scope (compEnvC scope cl C X.env) fp) tg1 iter1 wi1)
    (hg1 : ∀ (s : Shared) (H : Hp) (C : Addr) (cl : List (Str × Addr)) (fp : List Addr), PG (X.blk s H scope (compEnvC scope cl C X.env) fp) tg1 g1)
    (ht1 : ∀ (s : Shared) (H : Hp) (C : Addr) (cl : List (Str × Addr)) (fp : List Addr), PTs (X.blk s H scope (compEnvC scope cl C X.env) fp) ifs1 tt1)
    (hs1 : ∀ env x, foldedSetIterable iter1 env x = pure x)
    (h : tLc2 wi g tt wi1 g1 tt1 te (own.map (·.2)) vs1 σ H Q)
    (hRR : ∀ D C s' m H', Inv X pins σ H' s' → Q (.ref D) H' → s'.heap.Ns C m → FpOk X pins H' C → compPost (model X.prog X.w) X.A X.xe use Qf (.ref D) C (.ok .next) s') :
    wpAny (model X.prog X.w) X.A (comprehension (.ListComp elt [⟨tg, iter, ifs, 0⟩, ⟨tg1, iter1, ifs1, 0⟩] scope pos) scope X.env pos' (newList []) false (eval iter X.env) use) Qf X.xe s := by
  have hfree : ∀ y ∈ scope.names, y.2 = .free → ∃ c, X.env.cells.lookup y.1 = some c := fun y hy e => by
    rcases ok.free y hy e with k | k
    · exact I.ok.has _ (.inl k)
    · exact I.ok.has _ (.inr k)
  refine wpAny_comprehension_free (use := use) rfl hs (closure_ok hfree) ok.kind (fun y hy e => by rw [ok.uniq y hy, e])
    (thn (hi pins s σ H _ I h) fun xv s1 hx => thn hx fun itv s2 h2 => ?_)
  obtain ⟨it, fp, tn, J, H2, e, I2, T, st2, f2, q⟩ := h2
  subst e
  refine wpAny_newObj_type (newEnv_comp ?_) (by show 0 ≤ sizeLine; decide)
  generalize hD : s2.heap.objs.size = D
  have hDn : H2 D = none := I2.hok.fresh (Nat.le_of_eq hD)
  obtain ⟨W, ⟨m0, w0⟩, turn⟩ := q D hDn
  -- the new list
  generalize hs3 : ({ s2 with heap := s2.heap.push { cls := .type "list", data := .seq ([] : List Value).toArray } } : Shared) = s3
  have I3 : Inv X pins σ (upd H2 D (.lst [])) s3 := by
    rw [← hs3]
    refine I2.laid (t' := s2.toks) (fun b o e => Heap.get?_push_of_some _ e) (Nat.le_of_eq hD) ⟨Nat.zero_le _, [], 0, .nil, ?_⟩
    rw [← hD]
    exact Heap.get?_push_size _ rfl
  have h3 : s3.heap = s2.heap.push { cls := .type "list", data := .seq ([] : List Value).toArray } := by rw [← hs3]
  have sz : ∀ b ∈ fp, b < s2.heap.objs.size := fun b hb => by
    obtain ⟨o, e, _⟩ := T.obj _ _ st2 b hb
    exact Heap.lt_size e
  have f3 : ∀ b ∈ fp, FpOk X pins (upd H2 D (.lst [])) b ∧ b < s3.heap.objs.size := fun b hb => by
    have hlt := sz b hb
    refine ⟨⟨?_, (f2 b hb).2⟩, by rw [h3, Heap.size_push]; exact Nat.lt_succ_of_lt hlt⟩
    rw [upd_ne (by rw [← hD]; exact Nat.ne_of_lt hlt)]
    exact (f2 b hb).1
  have st3 : tn 0 s3.heap := T.keep _ _ _ st2 fun b _ o e => by rw [h3]; exact Heap.get?_push_of_some _ e
  have I4 := block_start I3 ok hN f3
  have pg := hg s3 (upd H2 D (.lst [])) s3.heap.objs.size (cellsFrom (s3.heap.objs.size + 1) scope.names (cloFrom X.env.cells scope.names [])) fp
  have pt := ht s3 (upd H2 D (.lst [])) s3.heap.objs.size (cellsFrom (s3.heap.objs.size + 1) scope.names (cloFrom X.env.cells scope.names [])) fp
  have pe := he s3 (upd H2 D (.lst [])) s3.heap.objs.size (cellsFrom (s3.heap.objs.size + 1) scope.names (cloFrom X.env.cells scope.names [])) fp
  have pi1 := hi1 s3 (upd H2 D (.lst [])) s3.heap.objs.size (cellsFrom (s3.heap.objs.size + 1) scope.names (cloFrom X.env.cells scope.names [])) fp
  have pg1 := hg1 s3 (upd H2 D (.lst [])) s3.heap.objs.size (cellsFrom (s3.heap.objs.size + 1) scope.names (cloFrom X.env.cells scope.names [])) fp
  have pt1 := ht1 s3 (upd H2 D (.lst [])) s3.heap.objs.size (cellsFrom (s3.heap.objs.size + 1) scope.names (cloFrom X.env.cells scope.names [])) fp
  show codeAny _ _ (.compStart (.ListComp elt [⟨tg, iter, ifs, 0⟩, ⟨tg1, iter1, ifs1, 0⟩] scope pos) 0 (.ref it) (.ref D) (compEnvC scope (cellsFrom (s3.heap.objs.size + 1) scope.names (cloFrom X.env.cells scope.names [])) s3.heap.objs.size X.env)) (compPost (model X.prog X.w) X.A X.xe use Qf (.ref D) s3.heap.objs.size) { s3 with heap := pushCells (s3.heap.push { cls := .type "dict", data := .dict #[] }) scope.names }
  have nfp : ∀ b ∈ fp, (upd H2 D (.lst [])) b = none := fun b hb => (f3 b hb).1.1
  generalize hce : compEnvC scope (cellsFrom (s3.heap.objs.size + 1) scope.names (cloFrom X.env.cells scope.names [])) s3.heap.objs.size X.env = ce at I4 pg pt pe pi1 pg1 pt1 ⊢
  have cL : ce.locals = s3.heap.objs.size := by subst hce; rfl
  generalize hH3 : upd H2 D (.lst []) = H3 at I3 I4 pg pt pe pi1 pg1 pt1 w0 nfp f3
  generalize hs4 : ({ s3 with heap := pushCells (s3.heap.push { cls := .type "dict", data := .dict #[] }) scope.names } : Shared) = s4 at I4 ⊢
  have st4 : tn 0 s4.heap := T.keep _ _ _ st3 fun b _ o e => by rw [← hs4]; exact pushCells_keeps _ _ _ _ (Heap.get?_push_of_some _ e)
  have stat : ∀ {σ' : St} {H' : Hp} {s' : Shared}, Inv (X.blk s3 H3 scope ce fp) [] σ' H' s' → (∀ b ∈ fp, H' b = none) → ∀ b ∈ fp, FpOk (X.blk s3 H3 scope ce fp) [] H' b := fun {σ' H' s'} I' hn b hb =>
    ⟨hn b hb, (I'.ok.exf b hb).1, I'.ok.exfs b hb, .inl hb, fun x c e => (I'.ok.exf b hb).2 x c e, fun p hp => absurd (show p ∈ ([] : List (Addr × Obj)) ++ [] from hp) (by simp)⟩
  have loop : codeAny (model X.prog X.w) X.A (.compLoop (.ListComp elt [⟨tg, iter, ifs, 0⟩, ⟨tg1, iter1, ifs1, 0⟩] scope pos) 0 (.ref it) (.ref D) ce) (compPost (model X.prog X.w) X.A X.xe use Qf (.ref D) s3.heap.objs.size) s4 := by
    refine compLoop2_out (hs1 ce) (fun n s' => ∃ i H', Inv (X.blk s3 H3 scope ce fp) [] (wipe σ (own.map (·.2))) H' s' ∧ tn i s'.heap ∧ (∀ b ∈ fp, H' b = none) ∧ W i n H') ?_ m0 ⟨0, H3, I4, st4, nfp, w0⟩
    rintro n s5 ⟨i, H5, I5, st5, n5, w5⟩
    rcases turn i n H5 w5 with ⟨stop, qq⟩ | ⟨go, Nx, hNx, step⟩
    · have td := T.done (X.blk s3 H3 scope ce fp) rfl rfl rfl hc i [] s5 _ H5 (fun _ _ => False) I5 (stat I5 n5) st5 stop
      refine thnF td fun r s6 ⟨hr, I6⟩ => ?_
      subst hr
      -- back in the def's context
      have I7 : Inv X pins σ H5 s6 := I3.call' (ch := fp) I6.os I6.base I6.hok I6.bare fun b hb => ⟨(f3 b hb).1.2.2.2.1, (f3 b hb).1.2.1, (f3 b hb).1.2.2.2.2.1, (f3 b hb).1.2.2.2.2.2⟩
      have nC : H5 s3.heap.objs.size = none := by
        have z : H5 ce.locals = none := I6.free
        rw [cL] at z
        exact z
      obtain ⟨m, hn, _⟩ := I6.loc
      have hn : s6.heap.Ns ce.locals m := hn
      rw [cL] at hn
      exact hRR D s3.heap.objs.size s6 m H5 I7 qq hn (I3.fpOk (Nat.le_refl _) nC)
    · have ti := T.item (X.blk s3 H3 scope ce fp) rfl rfl rfl hc i [] s5 _ H5 (fun _ _ => False) I5 (stat I5 n5) st5 go
      refine thnF ti fun r s6 ⟨u, hr, h6⟩ => ?_
      subst hr
      refine thnF h6 fun _ s7 ⟨x, H7, I7, r7, y7, st7, n7⟩ => ?_
      have I7' := I7.pinned (stat I7 n7) (T.obj _ _ st7)
      refine thnF (pg _ s7 _ H7 x u _ I7' r7 (step x H7 y7)) fun _ s8 ⟨σ8, H8, I8, hw8, q8⟩ => ?_
      refine thnF (pt _ s8 σ8 H8 _ I8 q8) fun b s9 ⟨H9, I9, q9⟩ => ?_
      -- the turn's end, from any slots that know what the block knew at its start
      have fin : ∀ {σ9 : St} {s' : Shared} {H' : Hp}, Inv (X.blk s3 H3 scope ce fp) ([] ++ pinsAt fp s7.heap) σ9 H' s' → (wipe σ (own.map (·.2))).length = σ9.length → (∀ (j : Nat) v, (wipe σ (own.map (·.2)))[j]? = some (some v) → σ9[j]? = some (some v)) → Nx H' →
          ∃ m, m < n ∧ ∃ i H', Inv (X.blk s3 H3 scope ce fp) [] (wipe σ (own.map (·.2))) H' s' ∧ tn i s'.heap ∧ (∀ b ∈ fp, H' b = none) ∧ W i m H' := fun {σ9 s' H'} I' hl hk nx => by
        obtain ⟨m', hm, w'⟩ := hNx H' nx
        have pin' : ∀ b ∈ fp, ∀ o, s7.heap.get? b = some o → s'.heap.get? b = some o ∧ H' b = none := fun b hb o e =>
          let z := I'.pin (b, o) (List.mem_append_right _ (List.mem_append_right _ (mem_pinsAt hb e)))
          ⟨z.1, z.2.1⟩
        refine ⟨m', hm, i + 1, H', (I'.unpinned (pins := [])).weak hl hk, T.keep _ _ _ st7 fun b hb o e => (pin' b hb o e).1, fun b hb => ?_, w'⟩
        obtain ⟨o, e, _⟩ := T.obj _ _ st7 b hb
        exact (pin' b hb o e).2
      have hl8 : (wipe σ (own.map (·.2))).length = σ8.length := by rw [← hw8, wipe_length]
      have hk8 : ∀ (j : Nat) v, (wipe σ (own.map (·.2)))[j]? = some (some v) → σ8[j]? = some (some v) := fun j v e => by
        rw [← hw8] at e
        exact (wipe_some e).1
      have hk9 : ∀ (j : Nat) v, (wipe σ (own.map (·.2)))[j]? = some (some v) → (wipe σ8 vs1)[j]? = some (some v) := fun j v e => by
        rw [← hw8] at e
        obtain ⟨e1, e2⟩ := wipe_some e
        rw [wipe_out fun z => e2 (hv j z)]
        exact e1
      cases b with
      | false =>
        simp only [Bool.false_eq_true, if_false] at q9 ⊢
        exact fin I9 hl8 hk8 q9
      | true =>
        simp only [if_true] at q9 ⊢
        refine thnF (pi1 _ s9 σ8 H9 _ I9 q9) fun xv s10 hx => thnF hx fun itv s11 h11 => ?_
        obtain ⟨it1, fp1, tn1, J1, H11, e1, I11, T1, st11, f11, W1, ⟨m1, w1⟩, turn1⟩ := h11
        subst e1
        -- the inner loop
        have stat1 : ∀ {H' : Hp}, (∀ b ∈ fp1, H' b = none) → ∀ b ∈ fp1, FpOk (X.blk s3 H3 scope ce fp) ([] ++ pinsAt fp s7.heap) H' b := fun hn b hb => ⟨hn b hb, (f11 b hb).2⟩
        have loop1 : codeAny (model X.prog X.w) X.A (.compLoop (.ListComp elt [⟨tg, iter, ifs, 0⟩, ⟨tg1, iter1, ifs1, 0⟩] scope pos) 1 (.ref it1) (.ref D) ce)
            (fun r s' => match r with
              | .ok _ => ∃ m, m < n ∧ ∃ i H', Inv (X.blk s3 H3 scope ce fp) [] (wipe σ (own.map (·.2))) H' s' ∧ tn i s'.heap ∧ (∀ b ∈ fp, H' b = none) ∧ W i m H'
              | .error _ => False) s11 := by
          refine compLoop2_in (fun k s' => ∃ j H', Inv (X.blk s3 H3 scope ce fp) ([] ++ pinsAt fp s7.heap) (wipe σ8 vs1) H' s' ∧ tn1 j s'.heap ∧ (∀ b ∈ fp1, H' b = none) ∧ W1 j k H') ?_ m1 ⟨0, H11, I11.weak (wipe_length _ _) (fun j v e => (wipe_some e).1), st11, fun b hb => (f11 b hb).1, w1⟩
          rintro k s12 ⟨j, H12, I12, st12, n12, w12⟩
          rcases turn1 j k H12 w12 with ⟨stop1, nx1⟩ | ⟨go1, Nx1, hNx1, step1⟩
          · refine thnF (T1.done (X.blk s3 H3 scope ce fp) rfl rfl rfl hc j _ s12 (wipe σ8 vs1) H12 (fun _ _ => False) I12 (stat1 n12) st12 stop1) fun r s13 ⟨hr, I13⟩ => ?_
            subst hr
            exact fin I13 (hl8.trans (wipe_length σ8 vs1).symm) hk9 nx1
          · refine thnF (T1.item (X.blk s3 H3 scope ce fp) rfl rfl rfl hc j _ s12 (wipe σ8 vs1) H12 (fun _ _ => False) I12 (stat1 n12) st12 go1) fun r s13 ⟨u1, hr, h13⟩ => ?_
            subst hr
            refine thnF h13 fun _ s14 ⟨x1, H14, I14, r14, y14, st14, n14⟩ => ?_
            have I14' := I14.pinned (stat1 n14) (T1.obj _ _ st14)
            refine thnF (pg1 _ s14 (wipe σ8 vs1) H14 x1 u1 _ I14' r14 (step1 x1 H14 y14)) fun _ s15 ⟨σ15, H15, I15, hw15, q15⟩ => ?_
            refine thnF (pt1 _ s15 σ15 H15 _ I15 q15) fun b1 s16 ⟨H16, I16, q16⟩ => ?_
            have fin1 : ∀ {s' : Shared} {H' : Hp}, Inv (X.blk s3 H3 scope ce fp) (([] ++ pinsAt fp s7.heap) ++ pinsAt fp1 s14.heap) σ15 H' s' → Nx1 H' → ∃ m, m < k ∧ ∃ j H', Inv (X.blk s3 H3 scope ce fp) ([] ++ pinsAt fp s7.heap) (wipe σ8 vs1) H' s' ∧ tn1 j s'.heap ∧ (∀ b ∈ fp1, H' b = none) ∧ W1 j m H' := fun {s' H'} I' nx => by
              obtain ⟨m', hm, w'⟩ := hNx1 H' nx
              have pin' : ∀ b ∈ fp1, ∀ o, s14.heap.get? b = some o → s'.heap.get? b = some o ∧ H' b = none := fun b hb o e =>
                let z := I'.pin (b, o) (List.mem_append_right _ (List.mem_append_right _ (mem_pinsAt hb e)))
                ⟨z.1, z.2.1⟩
              refine ⟨m', hm, j + 1, H', I'.unpinned.weak (by rw [← hw15, wipe_length]) (fun j v e => by rw [← hw15] at e; exact (wipe_some e).1), T1.keep _ _ _ st14 fun b hb o e => (pin' b hb o e).1, fun b hb => ?_, w'⟩
              obtain ⟨o, e, _⟩ := T1.obj _ _ st14 b hb
              exact (pin' b hb o e).2
            cases b1 with
            | false =>
              simp only [Bool.false_eq_true, if_false] at q16 ⊢
              exact fin1 I16 q16
            | true =>
              simp only [if_true] at q16 ⊢
              refine thnF (pe _ s16 σ15 H16 _ I16 q16) fun z s17 ⟨yv, H17, I17, r17, acc, hD17, hz17, nx⟩ => ?_
              exact app_ok (X := X.blk s3 H3 scope ce fp) I17 hD17 hz17 r17 fun s18 I18 => fin1 I18 nx
        exact compStart1_ok loop1 (T1.self X.A 0 _ _ _ st11 loop1)
  exact codeAny_compStart_list loop (T.self X.A 0 _ _ _ st4 loop)
theorem pe_lc2 {elt tg iter tg1 iter1 : Expr} {ifs ifs1 : List Expr} {scope : Scope} {own : List (Str × Nat)} {vs1 : List Nat} {pos : Pos} {wi wi1 : TI} {g g1 : TG} {tt tt1 : TT} {te : TE} (hc : X.calm = true) (hN : X.N.Nodup) (hi : PI X tg iter wi) (ok : BlkOk X.N X.env.scope scope own) (hv : ∀ i ∈ vs1, i ∈ own.map (·.2))
    (hg : ∀ (s : Shared) (H : Hp) (C : Addr) (cl : List (Str × Addr)) (fp : List Addr), PG (X.blk s H scope (compEnvC scope cl C X.env) fp) tg g) (ht : ∀ (s : Shared) (H : Hp) (C : Addr) (cl : List (Str × Addr)) (fp : List Addr), PTs (X.blk s H scope (compEnvC scope cl C X.env) fp) ifs tt)
    (hi1 : ∀ (s : Shared) (H : Hp) (C : Addr) (cl : List (Str × Addr)) (fp : List Addr), PI (X.blk s H scope (compEnvC scope cl C X.env) fp) tg1 iter1 wi1)
    (hg1 : ∀ (s : Shared) (H : Hp) (C : Addr) (cl : List (Str × Addr)) (fp : List Addr), PG (X.blk s H scope (compEnvC scope cl C X.env) fp) tg1 g1) (ht1 : ∀ (s : Shared) (H : Hp) (C : Addr) (cl : List (Str × Addr)) (fp : List Addr), PTs (X.blk s H scope (compEnvC scope cl C X.env) fp) ifs1 tt1)
    (he : ∀ (s : Shared) (H : Hp) (C : Addr) (cl : List (Str × Addr)) (fp : List Addr), PE (X.blk s H scope (compEnvC scope cl C X.env) fp) elt te) (hs : ∀ x, foldedSetIterable iter X.env x = pure x := by intro _; rfl) (hs1 : ∀ env x, foldedSetIterable iter1 env x = pure x := by intro _ _; rfl) :
    PE X (.ListComp elt [⟨tg, iter, ifs, 0⟩, ⟨tg1, iter1, ifs1, 0⟩] scope pos) (tLc2 wi g tt wi1 g1 tt1 te (own.map (·.2)) vs1) := by
  intro pins s σ H Q I h
  rw [eval_ListComp]
  refine lc2_core hc hN I hi ok hv hg ht he hs hi1 hg1 ht1 hs1 h fun D C s' m H' I' q hn f => ⟨m, hn, fun h'' sb => ?_⟩
  obtain ⟨f0, f1, f2, f3, f4, f5⟩ := f
  exact ⟨.ref D, H', I'.turned (t' := s'.toks) (fun b o hb e => (sb.2 b hb).trans e) f0 f1 f3 f4 f5, rfl, q⟩
theorem ps_setLc2 {i : Nat} {y : Str} {py : Pos} {elt tg iter tg1 iter1 : Expr} {ifs ifs1 : List Expr} {scope : Scope} {own : List (Str × Nat)} {vs1 : List Nat} {pos spos : Pos} {wi wi1 : TI} {g g1 : TG} {tt tt1 : TT} {te : TE} (hc : X.calm = true) (hN : X.N.Nodup) (hy : X.N[i]? = some y) (hyl : X.env.scope.names.lookup y = some .local)
    (hsw : swapsWith (.ListComp elt [⟨tg, iter, ifs, 0⟩, ⟨tg1, iter1, ifs1, 0⟩] scope pos) (some (.Name y py)) spos.line X.env = pure true) (hi : PI X tg iter wi) (ok : BlkOk X.N X.env.scope scope own) (hv : ∀ i ∈ vs1, i ∈ own.map (·.2))
    (hg : ∀ (s : Shared) (H : Hp) (C : Addr) (cl : List (Str × Addr)) (fp : List Addr), PG (X.blk s H scope (compEnvC scope cl C X.env) fp) tg g) (ht : ∀ (s : Shared) (H : Hp) (C : Addr) (cl : List (Str × Addr)) (fp : List Addr), PTs (X.blk s H scope (compEnvC scope cl C X.env) fp) ifs tt)
    (hi1 : ∀ (s : Shared) (H : Hp) (C : Addr) (cl : List (Str × Addr)) (fp : List Addr), PI (X.blk s H scope (compEnvC scope cl C X.env) fp) tg1 iter1 wi1)
    (hg1 : ∀ (s : Shared) (H : Hp) (C : Addr) (cl : List (Str × Addr)) (fp : List Addr), PG (X.blk s H scope (compEnvC scope cl C X.env) fp) tg1 g1) (ht1 : ∀ (s : Shared) (H : Hp) (C : Addr) (cl : List (Str × Addr)) (fp : List Addr), PTs (X.blk s H scope (compEnvC scope cl C X.env) fp) ifs1 tt1)
    (he : ∀ (s : Shared) (H : Hp) (C : Addr) (cl : List (Str × Addr)) (fp : List Addr), PE (X.blk s H scope (compEnvC scope cl C X.env) fp) elt te) (hs : ∀ x, foldedSetIterable iter X.env x = pure x := by intro _; rfl) (hs1 : ∀ env x, foldedSetIterable iter1 env x = pure x := by intro _ _; rfl) :
    PS X (.Assign [.Name y py] (.ListComp elt [⟨tg, iter, ifs, 0⟩, ⟨tg1, iter1, ifs1, 0⟩] scope pos) spos) (tAsg (tLc2 wi g tt wi1 g1 tt1 te (own.map (·.2)) vs1) (gName i)) := by
  intro pins s σ H D I h
  rw [exec_Assign_Name_used _ _ _ _ hsw]
  refine wpAny_bind (wpAny_standAt (wpAny_bind ?_))
  show wpAny _ X.A (do let _ ← comprehension (.ListComp elt [⟨tg, iter, ifs, 0⟩, ⟨tg1, iter1, ifs1, 0⟩] scope pos) scope X.env (firstIterPos [⟨tg, iter, ifs, 0⟩, ⟨tg1, iter1, ifs1, 0⟩] pos) (newList []) false (eval iter X.env) (some (assign (.Name y py) X.env))) _ _ s
  have h : tLc2 wi g tt wi1 g1 tt1 te (own.map (·.2)) vs1 σ H (fun x H1 => gName i x σ H1 D.nx) := h
  refine wpAny_bind (thn (lc2_core (Qf := fun _ s' => SP X pins D .next s') hc hN I hi ok hv hg ht he hs hi1 hg1 ht1 hs1 h fun L C s' m H' I' q hn f => ?_) fun _ s' hq => wpAny_pure (wpAny_pure hq))
  show wpAny _ _ (assign (.Name y py) X.env (.ref L)) _ _ _
  refine wpAny_assign_Name (store_ok2 (v := V.ref L) I' hN hy (.inl hyl) rfl (fun s2 I2 ⟨a, sb, ha⟩ => ?_) (.inr hyl))
  obtain ⟨f0, f1, f2, f3, f4, f5⟩ := f
  have haC : C ≠ a := by
    rcases ha with z | z
    · rw [z]; exact f1
    · exact fun e => f4 y a z e.symm
  refine ⟨m, hn.sameBut sb haC, fun h3 sb3 => ?_⟩
  exact ⟨_, H', I2.turned (t' := s2.toks) (fun b o hb e => (sb3.2 b hb).trans e) f0 f1 f3 f4 f5, q⟩
end
end L2
namespace L2
open PySem PySem.Spec PyProof.Rows
section
variable {κ : Type} [DecidableEq κ]
def valV (kvs : List (κ × V)) (k : κ) : Option V := (kvs.find? fun kv => decide (kv.1 = k)).map (·.2)
def putK (kvs : List (κ × V)) (k : κ) (v : V) : List (κ × V) :=
  if (kvs.any fun kv => decide (kv.1 = k)) = true then kvs.map (fun kv => if kv.1 = k then (kv.1, v) else kv) else kvs ++ [(k, v)]
def dropK (kvs : List (κ × V)) (k : κ) : List (κ × V) := kvs.filter fun kv => decide (kv.1 ≠ k)
theorem valV_pos {p : κ × V} {r : List (κ × V)} {k : κ} (e : p.1 = k) : valV (p :: r) k = some p.2 := by simp [valV, List.find?_cons, e]
theorem valV_neg {p : κ × V} {r : List (κ × V)} {k : κ} (e : ¬ p.1 = k) : valV (p :: r) k = valV r k := by simp [valV, List.find?_cons, e]
theorem valV_any (k : κ) : ∀ kvs : List (κ × V), (kvs.any fun kv => decide (kv.1 = k)) = (valV kvs k).isSome
  | [] => rfl
  | p :: r => by
    rw [List.any_cons]
    by_cases e : p.1 = k
    · simp only [valV_pos e, decide_eq_true e, Bool.true_or, Option.isSome_some]
    · rw [valV_neg e, decide_eq_false e, Bool.false_or]; exact valV_any k r
theorem valV_map (k j : κ) (y : V) : ∀ kvs : List (κ × V), valV (kvs.map fun kv => if kv.1 = k then (kv.1, y) else kv) j = (valV kvs j).map fun x => if j = k then y else x
  | [] => rfl
  | p :: r => by
    have ih := valV_map k j y r
    rw [List.map_cons]
    by_cases h : p.1 = k
    · rw [if_pos h]
      by_cases e : p.1 = j
      · rw [valV_pos (p := (p.1, y)) e, valV_pos e, Option.map_some, if_pos (e.symm.trans h)]
      · rw [valV_neg (p := (p.1, y)) e, valV_neg e, ih]
    · rw [if_neg h]
      by_cases e : p.1 = j
      · rw [valV_pos (p := p) e, valV_pos e, Option.map_some, if_neg (fun z => h (e.trans z))]
      · rw [valV_neg (p := p) e, valV_neg e, ih]
theorem valV_snoc (k j : κ) (y : V) : ∀ kvs : List (κ × V), valV kvs k = none → valV (kvs ++ [(k, y)]) j = if j = k then some y else valV kvs j
  | [], _ => by
    by_cases e : k = j
    · rw [if_pos e.symm]; exact valV_pos (p := (k, y)) e
    · rw [if_neg (fun z => e z.symm)]; exact valV_neg (p := (k, y)) e
  | p :: r, hn => by
    rw [List.cons_append]
    have hk : ¬ p.1 = k := fun z => by rw [valV_pos z] at hn; cases hn
    rw [valV_neg hk] at hn
    have ih := valV_snoc k j y r hn
    by_cases e : p.1 = j
    · rw [valV_pos e, valV_pos e, if_neg (fun z => hk (e.trans z))]
    · rw [valV_neg e, valV_neg e, ih]
theorem valV_put (kvs : List (κ × V)) (k j : κ) (y : V) : valV (putK kvs k y) j = if j = k then some y else valV kvs j := by
  unfold putK
  by_cases a : (kvs.any fun kv => decide (kv.1 = k)) = true
  · rw [if_pos a, valV_map]
    rw [valV_any] at a
    by_cases e : j = k
    · obtain ⟨x, hx⟩ := Option.isSome_iff_exists.mp a
      rw [if_pos e, e, hx, Option.map_some, if_pos rfl]
    · rw [if_neg e]
      cases valV kvs j with
      | none => rfl
      | some x => rw [Option.map_some, if_neg e]
  · rw [if_neg a]
    refine valV_snoc k j y kvs ?_
    rw [valV_any] at a
    cases q : valV kvs k with
    | none => rfl
    | some x => rw [q] at a; exact (a rfl).elim
theorem length_putK (kvs : List (κ × V)) (k : κ) (v : V) : (putK kvs k v).length ≤ kvs.length + 1 := by
  unfold putK
  split
  · rw [List.length_map]; omega
  · rw [List.length_append, List.length_cons, List.length_nil]; omega
theorem putK_new {kvs : List (κ × V)} {k : κ} (v : V) (h : valV kvs k = none) : putK kvs k v = kvs ++ [(k, v)] := by
  unfold putK
  rw [valV_any, h]
  exact if_neg (by decide)
theorem RelO.isSome_eq {o : Option V} {u : Option Value} (r : RelO o u) : o.isSome = u.isSome := by
  cases o with
  | none => cases u with
    | none => rfl
    | some _ => exact (show False from r).elim
  | some _ => cases u with
    | none => exact (show False from r).elim
    | some _ => rfl
theorem RelO.getD {o : Option V} {u : Option Value} {d : V} {d' : Value} (r : RelO o u) (rd : RelV d d') : RelV (o.getD d) (u.getD d') := by
  cases o with
  | none => cases u with
    | none => exact rd
    | some _ => exact (show False from r).elim
  | some _ => cases u with
    | none => exact (show False from r).elim
    | some _ => exact r
theorem KV.val {kvs : List (κ × V)} {vs : List (κ × Value)} (r : KV kvs vs) (k : κ) : RelO (valV kvs k) (valueAt vs k) := by
  unfold KV at r
  induction r with
  | nil => exact True.intro
  | @cons p q ps qs h t ih =>
    obtain ⟨h1, h2⟩ := h
    by_cases e : p.1 = k
    · have e' : q.1 = k := h1.symm.trans e
      have b : valueAt (q :: qs) k = some q.2 := by simp [valueAt, List.find?_cons, e']
      rw [valV_pos e, b]; exact h2
    · have e' : ¬ q.1 = k := fun z => e (h1.trans z)
      have b : valueAt (q :: qs) k = valueAt qs k := by simp [valueAt, List.find?_cons, e']
      rw [valV_neg e, b]; exact ih
theorem KV.any {kvs : List (κ × V)} {vs : List (κ × Value)} (r : KV kvs vs) (k : κ) : (kvs.any fun kv => decide (kv.1 = k)) = vs.any fun kv => decide (kv.1 = k) := by
  unfold KV at r
  induction r with
  | nil => rfl
  | cons h t ih => rw [List.any_cons, List.any_cons, ih, h.1]
theorem KV.repl {kvs : List (κ × V)} {vs : List (κ × Value)} (r : KV kvs vs) (k : κ) {y : V} {u : Value} (ry : RelV y u) :
    KV (kvs.map fun kv => if kv.1 = k then (kv.1, y) else kv) (vs.map fun kv => if kv.1 = k then (kv.1, u) else kv) := by
  unfold KV at r ⊢
  induction r with
  | nil => exact .nil
  | @cons p q ps qs h t ih =>
    rw [List.map_cons, List.map_cons]
    refine .cons ?_ ih
    obtain ⟨h1, h2⟩ := h
    by_cases e : p.1 = k
    · rw [if_pos e, if_pos (h1.symm.trans e)]; exact ⟨h1, ry⟩
    · rw [if_neg e, if_neg (fun z => e (h1.trans z))]; exact ⟨h1, h2⟩
theorem KV.put {kvs : List (κ × V)} {vs : List (κ × Value)} (r : KV kvs vs) (k : κ) {y : V} {u : Value} (ry : RelV y u) : KV (putK kvs k y) (stored vs k u) := by
  unfold putK stored
  rw [r.any k]
  by_cases e : (vs.any fun kv => decide (kv.1 = k)) = true
  · rw [if_pos e, if_pos e]; exact r.repl k ry
  · rw [if_neg e, if_neg e]; exact Paired.snoc r ⟨rfl, ry⟩
theorem KV.drop {kvs : List (κ × V)} {vs : List (κ × Value)} (r : KV kvs vs) (k : κ) : KV (dropK kvs k) (without vs k) := by
  unfold KV at r ⊢
  unfold dropK without
  induction r with
  | nil => exact .nil
  | @cons p q ps qs h t ih =>
    obtain ⟨h1, h2⟩ := h
    rw [List.filter_cons, List.filter_cons]
    by_cases e : p.1 = k
    · have a : ¬ decide (p.1 ≠ k) = true := by simp [e]
      have b : ¬ decide (q.1 ≠ k) = true := by simp [h1.symm.trans e]
      rw [if_neg a, if_neg b]; exact ih
    · have e' : ¬ q.1 = k := fun z => e (h1.trans z)
      have a : decide (p.1 ≠ k) = true := by simp [e]
      have b : decide (q.1 ≠ k) = true := by simp [e']
      rw [if_pos a, if_pos b]; exact .cons ⟨h1, h2⟩ ih
theorem KV.keys {kvs : List (κ × V)} {vs : List (κ × Value)} (r : KV kvs vs) : kvs.map (·.1) = vs.map (·.1) := by
  unfold KV at r
  induction r with
  | nil => rfl
  | cons h t ih => rw [List.map_cons, List.map_cons, ih, h.1]
theorem KV.length {kvs : List (κ × V)} {vs : List (κ × Value)} (r : KV kvs vs) : kvs.length = vs.length := Paired.length r
end
theorem kV_is {P : Program} {w : World} {k : Key} {u : Value} (r : RelV (kV k) u) : (mixKind P w).is k u = true := by
  cases k with
  | inl i => obtain ⟨t, e⟩ := (show ∃ t, u = Value.int i t from r); subst e; exact mixKind_int P w i t
  | inr x => obtain ⟨t, e⟩ := (show ∃ t, u = Value.str x t from r); subst e; exact mixKind_str P w x t
theorem items_are {P : Program} {w : World} : ∀ {ks : List Key} {us : List Value}, Vals (ks.map kV) us → ItemsAre (mixKind P w) ks us
  | [], _, r => by rw [List.map_nil] at r; cases r; exact .nil
  | k :: ks, _, r => by
    rw [List.map_cons] at r
    cases r with
    | cons h t => exact .cons (kV_is h) (items_are t)
abbrev KT (H : Hp) : List (List Key × V) → List (List Key × Addr × Value) → Prop := Paired fun p q => p.1 = q.1 ∧ H q.2.1 = some (.tup (p.1.map kV)) ∧ RelV p.2 q.2.2
theorem KT.val {H : Hp} {kvs : List (List Key × V)} {xs : List (List Key × Addr × Value)} (r : KT H kvs xs) (k : List Key) : RelO (valV kvs k) ((atKey xs k).map (·.2)) := by
  induction r with
  | nil => exact True.intro
  | @cons p q ps qs h t ih =>
    obtain ⟨h1, _, h2⟩ := h
    by_cases e : p.1 = k
    · have e' : q.1 = k := h1.symm.trans e
      have b : atKey (q :: qs) k = some q.2 := by simp [atKey, List.find?_cons, e']
      rw [valV_pos e, b]; exact h2
    · have e' : ¬ q.1 = k := fun z => e (h1.trans z)
      have b : atKey (q :: qs) k = atKey qs k := by simp [atKey, List.find?_cons, e']
      rw [valV_neg e, b]; exact ih
theorem KT.repl {H : Hp} {kvs : List (List Key × V)} {xs : List (List Key × Addr × Value)} (r : KT H kvs xs) (k : List Key) {y : V} {u : Value} (ry : RelV y u) :
    KT H (kvs.map fun kv => if kv.1 = k then (kv.1, y) else kv) (xs.map (putAt k u)) := by
  induction r with
  | nil => exact .nil
  | @cons p q ps qs h t ih =>
    rw [List.map_cons, List.map_cons]
    refine .cons ?_ ih
    obtain ⟨h1, h2, h3⟩ := h
    unfold putAt
    by_cases e : p.1 = k
    · rw [if_pos e, if_pos (h1.symm.trans e)]; exact ⟨h1, h2, ry⟩
    · rw [if_neg e, if_neg (fun z => e (h1.trans z))]; exact ⟨h1, h2, h3⟩
theorem KT.put {H : Hp} {kvs : List (List Key × V)} {xs : List (List Key × Addr × Value)} (r : KT H kvs xs) (k : List Key) {b : Addr} {y : V} {u : Value} (hb : H b = some (.tup (k.map kV))) (ry : RelV y u) :
    KT H (putK kvs k y) (storedH xs k b u) := by
  have e : (kvs.any fun kv => decide (kv.1 = k)) = (atKey xs k).isSome := by
    rw [valV_any, (r.val k).isSome_eq, Option.isSome_map]
  unfold putK storedH
  rw [e]
  by_cases q : (atKey xs k).isSome = true
  · rw [if_pos q, if_pos q]; exact r.repl k ry
  · rw [if_neg q, if_neg q]; exact Paired.snoc r ⟨rfl, hb, ry⟩
theorem KT.keeps {H H' : Hp} {kvs : List (List Key × V)} {xs : List (List Key × Addr × Value)} (r : KT H kvs xs) (ht : ∀ b ys, H b = some (.tup ys) → H' b = some (.tup ys)) : KT H' kvs xs :=
  Paired.mapP r fun _ _ z => ⟨z.1, ht _ _ z.2.1, z.2.2⟩
section
variable {P : Program} {w : World} {H : Hp} {h : Heap} {a : Addr}
theorem rd_of {u : HO} (ok : HOk P w H h) (e : Rd H a u) : ObjOk P w H h a u := e.ok ok
theorem key_of {ks : List Key} (ok : HOk P w H h) (e : H a = some (.tup (ks.map kV))) : (tupleKind (mixKind P w)).is h ks a := by
  obtain ⟨_, its, r, o, h1, h2, n, h3⟩ := (show ObjOk P w H h a (.tup (ks.map kV)) from ok a _ e)
  exact ⟨o, its.toArray, n, h1, h2, h3, by simpa using items_are r⟩
end
def DGet (H : Hp) (a : Addr) (y : V) (r : Option V) : Prop :=
  (∃ kvs k, Rd H a (.dK kvs) ∧ y = kV k ∧ r = valV kvs k) ∨ ∃ kvs k b, Rd H a (.dT kvs) ∧ y = .ref b ∧ H b = some (.tup (k.map kV)) ∧ r = valV kvs k
def DPut (H : Hp) (a : Addr) (y v : V) (H' : Hp) : Prop :=
  (∃ kvs k, H a = some (.dK kvs) ∧ y = kV k ∧ kvs.length < sizeLine ∧ H' = upd H a (.dK (putK kvs k v))) ∨
  ∃ kvs k b, H a = some (.dT kvs) ∧ y = .ref b ∧ H b = some (.tup (k.map kV)) ∧ kvs.length < sizeLine ∧ H' = upd H a (.dT (putK kvs k v))
theorem DGet.k {H : Hp} {a : Addr} {kvs : List (Key × V)} {k : Key} (e : H a = some (.dK kvs)) : DGet H a (kV k) (valV kvs k) := .inl ⟨kvs, k, .inl e, rfl, rfl⟩
theorem DGet.t {H : Hp} {a b : Addr} {kvs : List (List Key × V)} {k : List Key} (e : H a = some (.dT kvs)) (eb : H b = some (.tup (k.map kV))) : DGet H a (.ref b) (valV kvs k) := .inr ⟨kvs, k, b, .inl e, rfl, eb, rfl⟩
theorem DPut.k {H : Hp} {a : Addr} {kvs : List (Key × V)} {k : Key} {v : V} (e : H a = some (.dK kvs)) (hl : kvs.length < sizeLine) : DPut H a (kV k) v (upd H a (.dK (putK kvs k v))) := .inl ⟨kvs, k, e, rfl, hl, rfl⟩
theorem DPut.t {H : Hp} {a b : Addr} {kvs : List (List Key × V)} {k : List Key} {v : V} (e : H a = some (.dT kvs)) (eb : H b = some (.tup (k.map kV))) (hl : kvs.length < sizeLine) :
    DPut H a (.ref b) v (upd H a (.dT (putK kvs k v))) := .inr ⟨kvs, k, b, e, rfl, eb, hl, rfl⟩
section
variable {X : Cx} {pins : List (Addr × Obj)} {σ : St} {H : Hp} {s : Shared} {a : Addr} {y v : V} {u r : Value} {o : Option V} {A : Around} {E : Value → Shared → Prop}
theorem Inv.big (I : Inv X pins σ H s) : sysModules < s.heap.objs.size := by
  have h : mainGlobals < s.heap.objs.size := (I.mod.glob.keeps I.bk).lt
  exact Nat.lt_trans (by decide) h
theorem d_write {h' : Heap} {t' : Nat} {ob : HO} (I : Inv X pins σ H s) (mu : Mut (H a)) (hs : Heap.SameBut a s.heap h') (he : ∃ q, h'.get? a = some q) (new : ObjOk X.prog X.w (upd H a ob) h' a ob) :
    Inv X pins σ (upd H a ob) { s with heap := h', toks := t' } :=
  I.write (x := a) (e := a) mu (.inl rfl) (fun b q hb z => (hs.2 b hb).trans z) he new
end
section
variable {X : Cx} {pins : List (Addr × Obj)} {σ : St} {H : Hp} {s : Shared} {a : Addr} {kvs : List (Key × V)} {k : Key} {u : Value} {A : Around} {E : Value → Shared → Prop}
end
def NoSl (i : Expr) : Prop := ∀ ov iv, subscripted i false ov iv = operate [ov, iv] (getItem ov iv)
theorem subD_of {prog : Program} {w : World} {A : Around} {E : Value → Shared → Prop} {s : Shared} {env : Env} {value slice : Expr} {pos : Pos} {T id : String} {Q : Value → Shared → Prop}
    (hl : typeLookup (.type T) "__getitem__" = pure (some (.builtin id))) (hs : NoSl slice)
    (h : wpAny (model prog w) A (eval value env) (fun o s₁ => wpAny (model prog w) A (eval slice env) (fun i s₂ => s₂.TypeIs o T ∧ wpAny (model prog w) A (getItem o i) Q E s₂) E s₁) E s) :
    wpAny (model prog w) A (eval (.Subscript value slice pos) env) Q E s := by
  refine Subscript_ (wpAny_mono h (fun o s₁ h₁ => wpAny_mono h₁ (fun i s₂ h₂ => ?_) fun _ _ x => x) fun _ _ x => x)
  obtain ⟨hT, h₂⟩ := h₂
  unfold subscriptTail
  refine wpAny_bind ?_
  rw [getitemInPython_of_ne hT.not_modules]
  refine wpAny_bind (wpAny_specialOf hT hl ?_)
  have fin : wpAny (model prog w) A (subscripted slice false o i) (fun r s₃ => wpAny (model prog w) A (letTemporaryGo value o r >>= fun _ => pure r) Q E s₃) E s₂ := by
    rw [hs o i]
    exact wpAny_operating (wpAny_mono h₂ (fun r s₃ h₃ => wpAny_bind (wpAny_letTemporaryGo (wpAny_pure h₃))) fun _ _ x => x)
  first
    | exact wpAny_pure (wpAny_bind fin)
    | exact wpAny_bind (wpAny_pure (wpAny_bind fin))
    | exact wpAny_bind fin
section
variable {X : Cx} {o i e value : Expr} {pos pos' tpos : Pos} {td ty tv : TE}
end
section
variable {X : Cx} {pos : Pos}
end
structure M1 (X : Cx) (o : Expr) (m : Str) (apos : Pos) (e : Expr) (cpos : Pos) : Prop where
  base : attributeBase o m X.env (eval o X.env) = eval o X.env
  few : ((backTo cpos (starEach [e] X.env)).all (fun x => !x.1) && (backToKw cpos (keywordEach [] X.env)).all (fun x => x.1.isSome)
    && decide (([e] : List Expr).length + ([] : List Keyword).length + (if ([] : List Keyword).isEmpty then 0 else 1) < 30)) = true
  line : (apos.endLine == cpos.line) = true
  trees : backTo cpos (starEach [e] X.env) = [(false, eval e X.env)]
structure M2 (X : Cx) (o : Expr) (m : Str) (apos : Pos) (e f : Expr) (cpos : Pos) : Prop where
  base : attributeBase o m X.env (eval o X.env) = eval o X.env
  few : ((backTo cpos (starEach [e, f] X.env)).all (fun x => !x.1) && (backToKw cpos (keywordEach [] X.env)).all (fun x => x.1.isSome)
    && decide (([e, f] : List Expr).length + ([] : List Keyword).length + (if ([] : List Keyword).isEmpty then 0 else 1) < 30)) = true
  line : (apos.endLine == cpos.line) = true
  trees : backTo cpos (starEach [e, f] X.env) = [(false, eval e X.env), (false, eval f X.env)]
section
variable {X : Cx} {pins : List (Addr × Obj)} {σ : St} {H : Hp} {s : Shared} {a : Addr} {y d : V} {u r : Value} {o : Option V} {A : Around} {E : Value → Shared → Prop}
end
section
variable {X : Cx} {o e f : Expr} {apos cpos : Pos} {td ty tx : TE}
end
section
variable {X : Cx} {pins : List (Addr × Obj)} {σ : St} {H : Hp} {s : Shared} {a : Addr} {kvs : List (Key × V)} {A : Around} {E : Value → Shared → Prop}
end
section
variable {X : Cx} {pins : List (Addr × Obj)} {σ : St} {H : Hp} {s : Shared} {a : Addr} {y : V} {u : Value} {A : Around} {E : Value → Shared → Prop}
end
end L2
namespace L2
open PySem PySem.Spec PyProof.Rows
section
variable {prog : Program} {w : World} {A : Around} {E : Value → Shared → Prop}
end
section
variable {X : Cx}
end
end L2
namespace L2
open PySem PySem.Spec PyProof.Rows
theorem boot_reversed5 : bootBuiltins "reversed" = some (.type "reversed") := by decide +kernel
section
variable {X : Cx} {pins : List (Addr × Obj)} {σ : St} {H : Hp} {s : Shared} {h' : Heap}
theorem Inv.turnedL {t' : Nat} {ch : List Addr} (I : Inv X pins σ H s) (k : ∀ b o, b ∉ ch → s.heap.get? b = some o → h'.get? b = some o) (hf : ∀ b ∈ ch, FpOk X pins H b) : Inv X pins σ H { s with heap := h', toks := t' } := by
  have nit : ∀ b u, H b = some u → b ∉ ch := fun b u e z => by
    have q := (hf b z).1
    rw [q] at e; cases e
  refine I.step (g' := s.gens) (d' := s.drawn) (ch := ch) (fun b hb => ⟨(hf b hb).2.2.2.1, (hf b hb).2.1, (hf b hb).2.2.2.2.1, (hf b hb).2.2.2.2.2⟩) (fun b o _ _ hc e _ => k b o hc e) (fun b o _ _ hc e _ => ⟨o.slots, k b o hc e⟩)
    (fun _ _ _ _ n => n) (fun b o hc e => ⟨o, k b o hc e⟩) (fun _ _ e => e) (fun _ _ _ e => e) (fun b ps e => ⟨#[], by rw [e]; simp⟩) (fun m hm => ?_) (fun b u e => ?_) I.bare
  · obtain ⟨o, es, ep, ho, r⟩ := hm
    exact ⟨o, es, ep, k _ o (fun z => (hf _ z).2.1 rfl) ho, r⟩
  · refine (I.hok b u e).stay (fun c v hc q => k c v ?_ q) (fun _ q => q) fun _ _ q => q
    rcases hc with z | z
    · rw [z]; exact nit b u e
    · exact nit c _ z
theorem Inv.turnedNew {t' : Nat} {ch : List Addr} {T : Addr} {ob : HO} (I : Inv X pins σ H s) (k : ∀ b o, b ∉ ch → s.heap.get? b = some o → h'.get? b = some o) (hf : ∀ b ∈ ch, FpOk X pins H b) (hT : s.heap.objs.size ≤ T)
    (new : ObjOk X.prog X.w (upd H T ob) h' T ob) : Inv X pins σ (upd H T ob) { s with heap := h', toks := t' } := by
  have hn : H T = none := I.hok.fresh hT
  have nit : ∀ b u, H b = some u → b ∉ ch := fun b u e z => by
    have q := (hf b z).1
    rw [q] at e; cases e
  refine I.step (g' := s.gens) (d' := s.drawn) (ch := ch) (fun b hb => ⟨(hf b hb).2.2.2.1, (hf b hb).2.1, (hf b hb).2.2.2.2.1, (hf b hb).2.2.2.2.2⟩) (fun b o _ _ hc e _ => k b o hc e) (fun b o _ _ hc e _ => ⟨o.slots, k b o hc e⟩)
    (fun b o _ e n => ?_) (fun b o hc e => ⟨o, k b o hc e⟩) (fun b xs e => ?_) (fun b o u e => ?_) (fun b ps e => ⟨#[], ?_⟩) (fun m hm => ?_) (fun b u e => ?_) I.bare
  · rw [upd_ne (Nat.ne_of_lt (Nat.lt_of_lt_of_le (Heap.lt_size e) hT))]; exact n
  · rw [upd_ne (ne_of_none e hn)]; exact e
  · rw [upd_ne (ne_of_none e hn)]; exact e
  · rw [upd_ne (ne_of_none e hn), e]; simp
  · obtain ⟨o, es, ep, ho, r⟩ := hm
    exact ⟨o, es, ep, k _ o (fun z => (hf _ z).2.1 rfl) ho, r⟩
  · by_cases hb : b = T
    · subst hb
      rw [upd_same] at e
      cases e
      exact new
    · rw [upd_ne hb] at e
      refine (I.hok b u e).stay (fun c v hc q => k c v ?_ q) (fun c q => by rw [upd_ne (ne_of_none q hn)]; exact q) fun c xs q => by rw [upd_ne (ne_of_none q hn)]; exact q
      rcases hc with z | z
      · rw [z]; exact nit b u e
      · exact nit c _ z
theorem Inv.lock {d : Addr} {u : HO} (I : Inv X pins σ H s) (h : H d = some u) (mu : Mut (some u)) : ∃ od, Inv X pins σ (upd H d (.frz od u)) s := by
  have x := I.hok d u h
  have ex : ∃ od, s.heap.get? d = some od := by
    cases u with
    | lst xs => obtain ⟨_, _, _, _, e⟩ := x; exact ⟨_, e⟩
    | dK kvs => obtain ⟨_, _, _, _, o, _, _, e, _⟩ := x; exact ⟨o, e⟩
    | dT kvs => obtain ⟨_, _, _, _, o, _, _, e, _⟩ := x; exact ⟨o, e⟩
    | dP kvs => obtain ⟨_, _, _, _, o, _, _, e, _⟩ := x; exact ⟨o, e⟩
    | set S n => obtain ⟨o, _, _, _, e, _⟩ := x; exact ⟨o, e⟩
    | ins C dx fs => obtain ⟨_, _, _, e, _⟩ := x; exact ⟨_, e⟩
    | ext φ => obtain ⟨_, ⟨_, e⟩, _⟩ := x; exact ⟨_, e⟩
    | _ => exact False.elim mu
  obtain ⟨od, e⟩ := ex
  have new : ObjOk X.prog X.w (upd H d (.frz od u)) s.heap d (.frz od u) := by
    refine ⟨e, x.stay (fun b v _ q => q) (fun b q => ?_) fun b xs q => ?_⟩
    · rw [upd_ne (fun z => by rw [z, h] at q; cases q; exact mu)]; exact q
    · rw [upd_ne (fun z => by rw [z, h] at q; cases q; exact mu)]; exact q
  exact ⟨od, I.write (x := d) (e := d) (t' := s.toks) (h' := s.heap) (by rw [h]; exact mu) (.inl rfl) (fun b v _ q => q) ⟨od, e⟩ new⟩
theorem Inv.nofrz {d : Addr} {u : HO} (I : Inv X pins σ H s) (h : H d = some u) (mu : Mut (some u)) : ∀ o' u', X.H_0 d ≠ some (.frz o' u') := fun o' u' e => by
  have q := I.base.frzs d o' u' e
  rw [h] at q
  cases q
  exact mu
theorem Inv.unlock {d : Addr} {od : Obj} {u : HO} (I : Inv X pins σ H s) (h : H d = some (.frz od u)) (hn : ∀ o' u', X.H_0 d ≠ some (.frz o' u')) : Inv X pins σ (upd H d u) s := by
  have neH : ∀ b o, H b = some o → (∀ o' u', o ≠ .frz o' u') → b ≠ d := fun b o e hne z => by
    rw [z, h] at e
    cases e
    exact hne _ _ rfl
  have neN : ∀ b, H b = none → b ≠ d := fun b e z => by rw [z, h] at e; cases e
  refine ⟨I.ok, I.os, I.bare, ⟨I.base.keep, I.base.slot, fun b o e n hx => ?_, I.base.there, fun b xs e => ?_, fun b o x e => ?_, fun b ps e => ?_⟩, I.loc, I.cell, ?_, fun x c e => ?_, fun p hp => ?_, fun b o e => ?_, I.len⟩
  · rw [upd_ne (neN b (I.base.free b o e n hx))]; exact I.base.free b o e n hx
  · have q := I.base.tups b xs e
    rw [upd_ne (neH b _ q (fun _ _ z => nomatch z))]; exact q
  · have q := I.base.frzs b o x e
    rw [upd_ne (fun z => by rw [z] at e; exact hn _ _ e)]; exact q
  · obtain ⟨m, q⟩ := I.base.tbls b ps e
    exact ⟨m, by rw [upd_ne (neH b _ q (fun _ _ z => nomatch z))]; exact q⟩
  · rw [upd_ne (neN _ I.free)]; exact I.free
  · rw [upd_ne (neN c (I.freeC x c e))]; exact I.freeC x c e
  · obtain ⟨e, n, r⟩ := I.pin p hp
    exact ⟨e, by rw [upd_ne (neN _ n)]; exact n, r⟩
  · by_cases hb : b = d
    · rw [hb, upd_same] at e
      cases e
      rw [hb]
      obtain ⟨_, x⟩ := I.hok d _ h
      exact x.stay (fun c v _ q => q) (fun c q => by rw [upd_ne (neH c _ q (fun _ _ z => nomatch z))]; exact q) fun c xs q => by rw [upd_ne (neH c _ q (fun _ _ z => nomatch z))]; exact q
    · rw [upd_ne hb] at e
      exact (I.hok b o e).stay (fun c v _ q => q) (fun c q => by rw [upd_ne (neH c _ q (fun _ _ z => nomatch z))]; exact q) fun c xs q => by rw [upd_ne (neH c _ q (fun _ _ z => nomatch z))]; exact q
end
def tLockE (t : TE) : TE := fun σ H Q => ∃ d u, H d = some u ∧ Mut (some u) ∧ ∀ od, t σ (upd H d (.frz od u)) fun v H' => H' d = some (.frz od u) ∧ Q v (upd H' d u)
section
variable {X : Cx}
theorem pe_lock {e : Expr} {t : TE} (h : PE X e t) : PE X e (tLockE t) := by
  intro pins s σ H Q I hw
  obtain ⟨d, u, hd, mu, hw⟩ := hw
  obtain ⟨od, I1⟩ := I.lock hd mu
  refine thn (h pins s σ _ _ I1 (hw od)) fun v s1 ⟨x, H1, I2, r, e2, q⟩ => ?_
  exact ⟨x, _, I2.unlock e2 (I.nofrz hd mu), r, q⟩
theorem pi_one {tg : Expr} {pins : List (Addr × Obj)} {σ : St} {H : Hp} {s : Shared} {R : It → Hp → Prop} {J : It} {tn : Nat → Heap → Prop} {tk : Nat} (I : Inv X pins σ H s) (o : Obj)
    (T : Turn X.prog X.w X.K tg J [s.heap.objs.size] s.heap.objs.size tn) (st : tn 0 (s.heap.push o)) (q : R J H) : PIE X pins σ tg R (.ref s.heap.objs.size) { s with heap := s.heap.push o, toks := tk } := by
  refine ⟨s.heap.objs.size, [s.heap.objs.size], tn, J, H, rfl, I.kept fun b ob e => Heap.get?_push_of_some _ e, T, st, fun b hb => ?_, q⟩
  have e : b = s.heap.objs.size := by simpa using hb
  subst e
  exact I.fpOk (Nat.le_refl _) (I.hok.fresh (Nat.le_refl _))
end
def Itc (lo c : Int) (n : Nat) : It := ⟨fun i _ => i < n, fun i H x H' => H' = H ∧ x = .int (lo + (i : Nat) * c), fun i _ => n ≤ i⟩
theorem turn_rangeC {P : Program} {w : World} {K : PySem.W.Frag} {tg : Expr} (it : Addr) (lo c : Int) (n : Nat) : Turn P w K tg (Itc lo c n) [it] it (fun i h => IsRangeIter h it (lo + (i : Nat) * c) ((n : Int) - (i : Nat)) c) where
  mem := by simp
  obj := fun i h st b hb => by
    have e : b = it := by simpa using hb
    subst e
    exact ⟨_, st, fun v z => nomatch z⟩
  keep := fun i h h' st k => k it (by simp) _ st
  item := by
    intro X hP hw hK hc i pins s σ H E I hf st hg
    subst hP hw hK
    obtain ⟨f0, f1, f2, f3, f4, f5⟩ := hf it (by simp)
    have W := Walks.range (prog := X.prog) (w := X.w) (I.ok.hd hc) it lo c n
    refine W.item i s _ _ hg st fun v h' tk hv st' kk => ?_
    obtain ⟨t, rfl⟩ := hv
    have I1 : Inv X pins σ H { s with heap := h', toks := tk } := I.turned (fun b o hb e => kk b o (by simpa using hb) e) f0 f1 f3 f4 f5
    exact ⟨_, rfl, go_of (s := { s with heap := h', toks := tk }) (n := "range_iterator") st' rfl rfl (by decide) ⟨.int (lo + (i : Nat) * c), H, I1, ⟨t, rfl⟩, ⟨rfl, rfl⟩, st', fun b hb => (hf b hb).1⟩⟩
  done := by
    intro X hP hw hK hc i pins s σ H E I hf st hg
    subst hP hw hK
    obtain ⟨f0, f1, f2, f3, f4, f5⟩ := hf it (by simp)
    exact wpAny_pyNext_range_end (I.ok.hd hc) st (by have : n ≤ i := hg; omega) fun h' eb => ⟨rfl, I.turned (t' := s.toks) (fun b o hb e => eb b o hb e) f0 f1 f3 f4 f5⟩
  self := fun A i s Q E st h => wpAny_pyIter_rangeiter st h
def RgC (i j c : Int) (n : Nat) : Prop := c ≠ 0 ∧ c.natAbs < 1073741824 ∧ Builtin.Range.small i j c = true ∧ Builtin.Range.rangeSize i j c = n
theorem RgC.neg {i j : Int} (ha : -(2 ^ 62) ≤ i) (ha' : i < 2 ^ 62) (hb : -(2 ^ 62) ≤ j) (hb' : j < 2 ^ 62) : RgC i j (-1) (i - j).toNat :=
  ⟨by decide, by decide, PySem.W.small_down ha ha' hb hb', PySem.W.rangeSize_downNat i j⟩
section
variable {X : Cx} {tg : Expr}
end
theorem for_rangeC {lo c : Int} {n : Nat} {g : TG} {tb : TS} {D : Ends} {σ : St} {H : Hp} (Pv : Nat → St → Hp → Prop) (h0 : Pv 0 σ H)
    (hs : ∀ i σ H, i < n → Pv i σ H → g (.int (lo + (i : Nat) * c)) σ H fun σ2 H2 => tb { D with nx := Pv (i + 1), ct := Pv (i + 1), bk := D.nx } σ2 H2) (hd : ∀ σ H, Pv n σ H → D.nx σ H) :
    ∃ W : Nat → Nat → St → Hp → Prop, (∃ m, W 0 m σ H) ∧ ∀ i m σ H, W i m σ H →
      ((Itc lo c n).stop i H ∧ D.nx σ H) ∨ ((Itc lo c n).go i H ∧ ∃ N : St → Hp → Prop, (∀ σ' H', N σ' H' → ∃ m', m' < m ∧ W (i + 1) m' σ' H') ∧ ∀ x H', (Itc lo c n).yld i H x H' → g x σ H' fun σ2 H2 => tb { D with nx := N, ct := N, bk := D.nx } σ2 H2) := by
  refine ⟨fun i m σ H => m = n - i ∧ i ≤ n ∧ Pv i σ H, ⟨n, by simp, Nat.zero_le _, h0⟩, ?_⟩
  rintro i m σ H ⟨rfl, hi, p⟩
  by_cases hlt : i < n
  · refine .inr ⟨hlt, Pv (i + 1), fun σ' H' p' => ⟨n - (i + 1), by omega, rfl, hlt, p'⟩, fun x H' y => ?_⟩
    obtain ⟨e, y⟩ := y
    subst e y
    exact hs i σ _ hlt p
  · have e : i = n := by omega
    subst e
    exact .inl ⟨Nat.le_refl _, hd σ H p⟩
section
variable {X : Cx} {tg : Expr}
end
section
variable {prog : Program} {w : World} {A : Around} {E : Value → Shared → Prop} {s : Shared}
theorem iter_keys {d : Addr} {o : Obj} {es : Array DictEntry} {ep : Nat} {Q : Value → Shared → Prop} (hd : (d == sysModules) = false) (ho : s.heap.get? d = some o) (hc : o.ExactDict) (hdat : o.data = .dict es ep)
    (hQ : Q (.ref s.heap.objs.size) { s with heap := s.heap.push { cls := .type "dict_keyiterator", data := .fields #[.ref d, .int 0 0, .int es.size 0, .int ep 0] } }) :
    wpAny (model prog w) A (pyIter (.ref d)) Q E s := by
  have hT : s.TypeIs (.ref d) "dict" := ⟨o, ho, hc.1⟩
  refine wpAny_pyIter_slot hT F.slot_dict_iter (wpAny_call_entry F.slot_dict_iter hT F.entry_dict_iter ?_ (F.args_dict_iter_1 _))
  unfold Builtin.«dict.__iter__»
  refine wpAny_bind ?_
  unfold Builtin.Dict.dictSlotNone
  refine wpAny_bind (wpAny_notOrdered_dict hT ?_)
  show wpAny _ _ (pure (Value.ref d)) _ _ s
  refine wpAny_pure ?_
  show wpAny _ _ (Builtin.Dict.showsAll d >>= _) _ _ s
  unfold Builtin.Dict.showsAll
  rw [if_neg (by rw [hd]; exact Bool.false_ne_true)]
  refine wpAny_bind (wpAny_pure ?_)
  refine wpAny_bind (wpAny_dictEntries ho hdat ?_)
  refine wpAny_bind (wpAny_dictEpoch ho hdat ?_)
  refine wpAny_bind (wpAny_newObj_type (wpAny_pure ⟨_, rfl, "dict_keyiterator", _, ⟨_, Heap.get?_push_size _ rfl, rfl⟩, F.slot_dict_keyiterator_next.lookup, ?_⟩))
  simpa [rawInt] using hQ
theorem next_key_item {it d : Addr} {i n ep : Nat} {od : Obj} {es : Array DictEntry} {en : DictEntry} {Q : Option Value → Shared → Prop} (hit : s.heap.IsKeyIter it d i n ep) (hod : s.heap.get? d = some od) (hdd : od.data = .dict es ep)
    (hsz : es.size = n) (hx : es[i]? = some en) (hQ : ∀ h', h'.IsKeyIter it d (i + 1) n ep → Heap.SameBut it s.heap h' → Q (some en.key) { s with heap := h' }) : wpAny (model prog w) A (pyNext (.ref it)) Q E s := by
  obtain ⟨o, ho, hc, hd⟩ := id hit
  unfold pyNext
  refine wpAny_bind (wpAny_attempt (wpAny_callSpecial?_slot (name := Str.ofString "__next__") hit.typeIs F.slot_dict_keyiterator_next
    (wpAny_call_entry F.slot_dict_keyiterator_next hit.typeIs F.entry_dict_keyiterator_next ?_ (F.args_dict_keyiterator_next_1 _))))
  refine wpAny_bind (wpAny_pure ?_)
  refine wpAny_bind ?_
  refine wpAny_bind ?_
  first | refine wpAny_bind (wpAny_typeNameOfWhole_keyiter hit.typeIs (wpAny_pure ?_)) | refine wpAny_bind (wpAny_typeNameOf_keyiter hit.typeIs (wpAny_pure ?_))
  refine wpAny_bind (wpAny_fieldsOf ho hd ?_)
  have hown : Builtin.Dict_items.ownsTuple "dict_keyiterator" = false := by decide
  simp only [hown, Bool.false_eq_true, if_false]
  show wpAny _ _ (if (Value.ref d == Value.none) = true then _ else _) _ _ s
  rw [if_neg (show ¬ ((Value.ref d == Value.none) = true) from Bool.false_ne_true)]
  refine wpAny_bind (wpAny_pure ?_)
  refine wpAny_bind (wpAny_dictEntries hod hdd ?_)
  rw [if_neg (by rw [hsz]; simp)]
  refine wpAny_bind (wpAny_pure ?_)
  refine wpAny_bind (wpAny_dictEpoch hod hdd ?_)
  rw [if_neg (by simp)]
  refine wpAny_pure ?_
  obtain ⟨hlt', hen⟩ := Array.getElem?_eq_some_iff.mp hx
  simp only [show ¬ ((i : Int) < 0) from by omega, if_false, Int.toNat_natCast, Array.getElem?_eq_getElem hlt']
  refine wpAny_bind ?_
  first | refine wpAny_bind (wpAny_typeNameOfWhole_keyiter hit.typeIs (wpAny_pure ?_)) | refine wpAny_bind (wpAny_typeNameOf_keyiter hit.typeIs (wpAny_pure ?_))
  refine wpAny_bind (wpAny_isOneOf_keyiter hit.typeIs ?_)
  show wpAny _ _ (setField (.ref it) 1 (rawInt ((i : Int) + 1)) >>= _) _ _ s
  refine wpAny_bind (wpAny_setField ho hd (by simp) ?_)
  have hit' : (s.heap.update it (Obj.mapFields (·.setIfInBounds 1 (rawInt ((i : Int) + 1))))).IsKeyIter it d (i + 1) n ep :=
    ⟨_, Heap.get?_update_self _ ho (Obj.isFreed_of_fields (Obj.data_mapFields hd _)), (Obj.cls_mapFields ..).trans hc, by rw [Obj.data_mapFields hd]; simp [rawInt]⟩
  refine wpAny_bind (wpAny_holding ?_)
  refine wpAny_bind (wpAny_isOneOf_keyiter (s := { s with heap := s.heap.update it (Obj.mapFields (·.setIfInBounds 1 (rawInt ((i : Int) + 1)))) }) hit'.typeIs ?_)
  show wpAny _ _ (pure es[i].key) _ _ _
  rw [hen]
  exact wpAny_pure (wpAny_pure ⟨_, rfl, wpAny_pure (hQ _ hit' (Heap.SameBut.update ..))⟩)
theorem next_key_end {it d : Addr} {i n ep : Nat} {od : Obj} {es : Array DictEntry} {Q : Option Value → Shared → Prop} (hh : A.handled = none) (hit : s.heap.IsKeyIter it d i n ep) (hod : s.heap.get? d = some od) (hdd : od.data = .dict es ep)
    (hsz : es.size = n) (hge : n ≤ i) (hQ : ∀ h', Heap.ExtBut it s.heap h' → Q none { s with heap := h' }) : wpAny (model prog w) A (pyNext (.ref it)) Q E s := by
  obtain ⟨o, ho, hc, hd⟩ := id hit
  unfold pyNext
  refine wpAny_bind (wpAny_attempt (wpAny_callSpecial?_slot (name := Str.ofString "__next__") hit.typeIs F.slot_dict_keyiterator_next
    (wpAny_call_entry F.slot_dict_keyiterator_next hit.typeIs F.entry_dict_keyiterator_next ?_ (F.args_dict_keyiterator_next_1 _))))
  refine wpAny_bind (wpAny_pure ?_)
  refine wpAny_bind ?_
  refine wpAny_bind ?_
  first | refine wpAny_bind (wpAny_typeNameOfWhole_keyiter hit.typeIs (wpAny_pure ?_)) | refine wpAny_bind (wpAny_typeNameOf_keyiter hit.typeIs (wpAny_pure ?_))
  refine wpAny_bind (wpAny_fieldsOf ho hd ?_)
  have hown : Builtin.Dict_items.ownsTuple "dict_keyiterator" = false := by decide
  simp only [hown, Bool.false_eq_true, if_false]
  show wpAny _ _ (if (Value.ref d == Value.none) = true then _ else _) _ _ s
  rw [if_neg (show ¬ ((Value.ref d == Value.none) = true) from Bool.false_ne_true)]
  refine wpAny_bind (wpAny_pure ?_)
  refine wpAny_bind (wpAny_dictEntries hod hdd ?_)
  rw [if_neg (by rw [hsz]; simp)]
  refine wpAny_bind (wpAny_pure ?_)
  refine wpAny_bind (wpAny_dictEpoch hod hdd ?_)
  rw [if_neg (by simp)]
  refine wpAny_pure ?_
  have hge' : es.size ≤ i := by rw [hsz]; exact hge
  simp only [show ¬ ((i : Int) < 0) from by omega, if_false, Int.toNat_natCast, Array.getElem?_eq_none hge']
  refine wpAny_bind ?_
  first | refine wpAny_bind (wpAny_typeNameOfWhole_keyiter hit.typeIs (wpAny_pure ?_)) | refine wpAny_bind (wpAny_typeNameOf_keyiter hit.typeIs (wpAny_pure ?_))
  show wpAny _ _ (setField (.ref it) 0 .none >>= _) _ _ s
  refine wpAny_bind (wpAny_setField ho hd (by simp) ?_)
  show wpAny _ _ (newExc (.type "StopIteration") [] >>= _) _ _ _
  refine wpAny_bind ?_
  simp only [newExc, newTuple]
  refine wpAny_bind (wpAny_newObj_type ?_ (by size_fits))
  refine wpAny_bind (m := firstArgMember _ _) (wpAny_of_eq (a := Value.none) (by first | rfl | (simp only [firstArgMember]; rfl)) ?_)
  refine wpAny_newObj_type ?_ (by size_fits)
  simp only [raiseNew]
  refine wpAny_bind (wpAny_handled ?_)
  rw [show A.in1.handled = none from hh]
  refine wpAny_bind (wpAny_pure (wpAny_throw ?_))
  refine wpAny_bind (wpAny_isInstance (T := "StopIteration") (b := true) ⟨_, Heap.get?_push_size _ rfl, rfl⟩ isSubtype_stop ?_)
  exact wpAny_pure (hQ _ (((Heap.SameBut.update ..).extBut.push _).push _))
end
theorem paired_get {α β : Type} {G : α → β → Prop} {l₁ : List α} {l₂ : List β} (h : Paired G l₁ l₂) : ∀ {i : Nat} {a : α}, l₁[i]? = some a → ∃ b, l₂[i]? = some b ∧ G a b := by
  induction h with
  | nil => intro i a e; simp at e
  | @cons a b l₁ l₂ r t ih =>
    intro i a' e
    cases i with
    | zero =>
      simp only [List.getElem?_cons_zero, Option.some.injEq] at e
      subst e
      exact ⟨b, rfl, r⟩
    | succ j =>
      simp only [List.getElem?_cons_succ] at e ⊢
      exact ih e
section
variable {X : Cx} {pins : List (Addr × Obj)} {σ : St} {H : Hp} {s : Shared} {d : Addr} {o : Obj}
end
theorem dict_ep {o : Obj} {es es' : Array DictEntry} {ep ep' : Nat} (h : o.data = .dict es ep) (h' : o.data = .dict es' ep') : es' = es ∧ ep' = ep := by
  rw [h] at h'
  cases h'
  exact ⟨rfl, rfl⟩
section
variable {P : Program} {w : World} {K : PySem.W.Frag} {tg : Expr} {d : Addr} {o : Obj} {es : Array DictEntry} {ep : Nat}
end
section
variable {X : Cx} {tg e : Expr} {td : TE} {apos cpos : Pos}
end
def Ite (K : PySem.W.Frag) (a : Addr) : It :=
  ⟨fun i H => ∃ (xs : List V) (x : V), SqL K H a xs ∧ xs[i]? = some x, fun i H v H' => ∃ T x, v = .ref T ∧ H T = none ∧ H' = upd H T (.tup [.int (i : Nat), x]) ∧ ∀ xs, SqL K H a xs → xs[i]? = some x, fun i H => ∃ xs : List V, SqL K H a xs ∧ xs.length ≤ i⟩
theorem turn_enum {P : Program} {w : World} {K : PySem.W.Frag} {elts : List Expr} {kk : Nat} {tpos : Pos} (a e it : Addr) :
    Turn P w K (.Tuple elts kk tpos) (Ite K a) [e, it] e (fun i h => (∃ old, IsEnum h e it ((i : Nat) : Int) old) ∧ h.IsListIter it a i ∧ e ≠ it) where
  mem := by simp
  obj := fun i h st b hb => by
    obtain ⟨⟨old, he⟩, ⟨o, ho, hc, hd⟩, _⟩ := st
    have e' : b = e ∨ b = it := by simpa using hb
    rcases e' with z | z
    · rw [z]; exact ⟨_, he, fun v q => nomatch q⟩
    · rw [z]; exact ⟨o, ho, fun v q => by rw [hd] at q; cases q⟩
  keep := fun i h h' st k => let ⟨⟨old, he⟩, hi, hne⟩ := st; ⟨⟨old, k e (by simp) _ he⟩, hi.at fun o q => k it (by simp) o q, hne⟩
  item := by
    intro X hP hw hK hc i pins s σ H E I hf st hg
    subst hP hw hK
    obtain ⟨⟨old, he⟩, hit, hne⟩ := st
    obtain ⟨xs, x, hq, hx⟩ := hg
    obtain ⟨its, rv, p, hz⟩ := I.list hq
    obtain ⟨u, hu, ru⟩ := rv.get hx
    have hel : e < s.heap.objs.size := Heap.lt_size he
    have hil : it < s.heap.objs.size := by obtain ⟨_, q, _⟩ := hit; exact Heap.lt_size q
    refine wpAny_pyNext_enum_item he hit p.isList (x := u) (by simpa using hu) hne fun h' ho hit' hT hsz hk => ?_
    refine ⟨_, rfl, wpAny_letOwnedTupleGo_enum (s := { s with heap := h', toks := s.toks + 1 }) ho fun h'' he' sb => ?_⟩
    have hT2 : h''.get? s.heap.objs.size = some { cls := .type "tuple", data := .seq #[.int i s.toks, u] } := (sb.2 _ (Nat.ne_of_gt hel)).trans hT
    have new : ObjOk X.prog X.w (upd H s.heap.objs.size (.tup [.int (i : Nat), x])) h'' s.heap.objs.size (.tup [.int (i : Nat), x]) :=
      ⟨by show 2 ≤ sizeLine; decide, [.int i s.toks, u], .cons ⟨_, rfl⟩ (.cons ru .nil), ⟨_, hT2, rfl, _, rfl⟩⟩
    have I1 : Inv X pins σ (upd H s.heap.objs.size (.tup [.int (i : Nat), x])) { s with heap := h'', toks := s.toks + 1 } :=
      I.turnedNew (ch := [e, it]) (fun b ob hb q => (sb.2 b (fun z => hb (by simp [z]))).trans (hk b ob (fun z => hb (by simp [z])) (fun z => hb (by simp [z])) q)) hf (Nat.le_refl _) new
    refine ⟨.ref s.heap.objs.size, _, I1, rfl, ⟨_, x, rfl, I.hok.fresh (Nat.le_refl _), rfl, fun ys hy => by rw [I.list_inj hy hq]; exact hx⟩, ⟨⟨u, ?_⟩, hit'.at fun o q => (sb.2 it (Ne.symm hne)).trans q, hne⟩, fun b hb => ?_⟩
    · have e1 : ((i + 1 : Nat) : Int) = (i : Int) + 1 := by omega
      rw [e1]; exact he'
    · have hb' : b < s.heap.objs.size := by
        have e' : b = e ∨ b = it := by simpa using hb
        rcases e' with z | z
        · rw [z]; exact hel
        · rw [z]; exact hil
      rw [upd_ne (Nat.ne_of_lt hb')]
      exact (hf b hb).1
  done := by
    intro X hP hw hK hc i pins s σ H E I hf st hg
    subst hP hw hK
    obtain ⟨⟨old, he⟩, hit, hne⟩ := st
    obtain ⟨xs, hq, hx⟩ := hg
    obtain ⟨its, rv, p, hz⟩ := I.list hq
    obtain ⟨f0, f1, f2, f3, f4, f5⟩ := hf it (by simp)
    have hl := rv.length
    exact wpAny_pyNext_enum_end (I.ok.hd hc) he hit p.isList (by simp; omega) fun h' eb => ⟨rfl, I.turned (t' := s.toks) (fun b o hb q => eb b o hb q) f0 f1 f3 f4 f5⟩
  self := fun A i s Q E st h => let ⟨⟨_, he⟩, _⟩ := st; wpAny_pyIter_enum he h
def iEnum (K : PySem.W.Frag) (ta : TA) : TI := fun σ H R => ta σ H fun vs H1 => ∃ a xs, vs = [.ref a] ∧ SqL K H1 a xs ∧ R (Ite K a) H1
theorem pi_enum {X : Cx} {e : Expr} {ta : TA} {p pos tpos : Pos} {elts : List Expr} {kk : Nat} (hg : Gl X "enumerate") (hm : X.mg "enumerate" = none) (ha : PA X [e] ta) (hs : starEach [e] X.env = [(false, eval e X.env)] := by rfl) :
    PI X (.Tuple elts kk tpos) (.Call (.Name "enumerate" p) [e] [] pos) (iEnum X.K ta) := by
  intro pins s σ H R I h
  refine Call_ (ld_blt I hg hm boot_enumerate (PyProof.Rows.callWith_type1 (thn (ha pos pins s σ H _ I h) fun us s1 ⟨vs, H1, I1, r1, q1⟩ => ?_) hs rfl))
  obtain ⟨a, xs, ex, hq, q⟩ := q1
  subst ex
  cases r1 with
  | cons r rr =>
    cases rr
    cases r
    obtain ⟨its, rv, p', hz⟩ := I1.list hq
    refine call_enumerate_list p'.isList fun h' he hit hsz hk => wpAny_pyIter_enum he ?_
    have I2 : Inv X pins σ H1 { s1 with heap := h' } := I1.kept (t' := s1.toks) hk
    refine ⟨s1.heap.objs.size + 1, [s1.heap.objs.size + 1, s1.heap.objs.size], _, _, H1, rfl, I2, turn_enum a (s1.heap.objs.size + 1) s1.heap.objs.size, ⟨⟨.none, he⟩, hit, Nat.succ_ne_self _⟩, fun b hb => ?_, q⟩
    have e' : b = s1.heap.objs.size + 1 ∨ b = s1.heap.objs.size := by simpa using hb
    have hle : s1.heap.objs.size ≤ b := by
      rcases e' with z | z
      · rw [z]; exact Nat.le_add_right _ _
      · rw [z]; exact Nat.le_refl _
    exact I1.fpOk hle (I1.hok.fresh hle)
theorem boot_zip5 : bootBuiltins "zip" = some (.type "zip") := by decide +kernel
def Itz (K : PySem.W.Frag) (a b : Addr) : It :=
  ⟨fun i H => ∃ (xs ys : List V) (x y : V), SqL K H a xs ∧ SqL K H b ys ∧ xs[i]? = some x ∧ ys[i]? = some y,
    fun i H v H' => ∃ T x y, v = .ref T ∧ H T = none ∧ H' = upd H T (.tup [x, y]) ∧ (∀ xs, SqL K H a xs → xs[i]? = some x) ∧ ∀ ys, SqL K H b ys → ys[i]? = some y,
    fun i H => ∃ xs ys : List V, SqL K H a xs ∧ SqL K H b ys ∧ (xs.length ≤ i ∨ ys.length ≤ i)⟩
theorem turn_zip {P : Program} {w : World} {K : PySem.W.Frag} {elts : List Expr} {kk : Nat} {tpos : Pos} {a b z TI TO i1 i2 : Addr} (D : ZipApart z TI TO i1 i2 a b) :
    Turn P w K (.Tuple elts kk tpos) (Itz K a b) [z, TI, TO, i1, i2] z (fun i h => IsZip h z TI TO .none ∧ IsPair h TI (.ref i1) (.ref i2) ∧ (∃ x y, IsPair h TO x y) ∧ h.IsListIter i1 a i ∧ h.IsListIter i2 b i) where
  mem := by simp
  obj := fun i h st c hc => by
    obtain ⟨hz, hTI, ⟨x, y, hTO⟩, ⟨o1, e1, _, d1⟩, ⟨o2, e2, _, d2⟩⟩ := st
    have e' : c = z ∨ c = TI ∨ c = TO ∨ c = i1 ∨ c = i2 := by simpa using hc
    rcases e' with q | q | q | q | q
    · rw [q]; exact ⟨_, hz, fun v q => nomatch q⟩
    · rw [q]; exact ⟨_, hTI, fun v q => nomatch q⟩
    · rw [q]; exact ⟨_, hTO, fun v q => nomatch q⟩
    · rw [q]; exact ⟨o1, e1, fun v q => by rw [d1] at q; cases q⟩
    · rw [q]; exact ⟨o2, e2, fun v q => by rw [d2] at q; cases q⟩
  keep := fun i h h' st k => by
    obtain ⟨hz, hTI, ⟨x, y, hTO⟩, h1, h2⟩ := st
    exact ⟨k z (by simp) _ hz, k TI (by simp) _ hTI, ⟨x, y, k TO (by simp) _ hTO⟩, h1.at fun o q => k i1 (by simp) o q, h2.at fun o q => k i2 (by simp) o q⟩
  item := by
    intro X hP hw hK hc i pins s σ H E I hf st hg
    subst hP hw hK
    obtain ⟨hz, hTI, ⟨x0, y0, hTO⟩, h1, h2⟩ := st
    obtain ⟨xs, ys, x, y, hqx, hqy, hx, hy⟩ := hg
    obtain ⟨its, rv, p, _⟩ := I.list hqx
    obtain ⟨its2, rv2, p2, _⟩ := I.list hqy
    obtain ⟨u, hu, ru⟩ := rv.get hx
    obtain ⟨u2, hu2, ru2⟩ := rv2.get hy
    have hzl : z < s.heap.objs.size := Heap.lt_size hz
    refine wpAny_pyNext_zip_item D hz hTI hTO h1 h2 p.isList p2.isList (x := u) (y := u2) (by simpa using hu) (by simpa using hu2) fun h' z' TO' h1' h2' hT hsz hk => ?_
    refine ⟨_, rfl, wpAny_letOwnedTupleGo_zip (s := { s with heap := h' }) z' fun h'' z'' sb => ?_⟩
    have hT2 : h''.get? s.heap.objs.size = some { cls := .type "tuple", data := .seq #[u, u2] } := (sb.2 _ (Nat.ne_of_gt hzl)).trans hT
    have new : ObjOk X.prog X.w (upd H s.heap.objs.size (.tup [x, y])) h'' s.heap.objs.size (.tup [x, y]) :=
      ⟨by show 2 ≤ sizeLine; decide, [u, u2], .cons ru (.cons ru2 .nil), ⟨_, hT2, rfl, _, rfl⟩⟩
    have I1 : Inv X pins σ (upd H s.heap.objs.size (.tup [x, y])) { s with heap := h'' } :=
      I.turnedNew (t' := s.toks) (ch := [z, TI, TO, i1, i2]) (fun c o hb q => (sb.2 c (fun q' => hb (by simp [q']))).trans (hk c o (fun q' => hb (by simp [q'])) (fun q' => hb (by simp [q'])) (fun q' => hb (by simp [q'])) (fun q' => hb (by simp [q'])) q)) hf (Nat.le_refl _) new
    refine ⟨.ref s.heap.objs.size, _, I1, rfl, ⟨_, x, y, rfl, I.hok.fresh (Nat.le_refl _), rfl, fun l hl => by rw [I.list_inj hl hqx]; exact hx, fun l hl => by rw [I.list_inj hl hqy]; exact hy⟩, ⟨z'', ?_, ⟨u, u2, ?_⟩, ?_, ?_⟩, fun c hcm => ?_⟩
    · exact (sb.2 _ D.TIz).trans (hk _ _ D.TIz D.TITO D.TIi1 D.TIi2 hTI)
    · exact (sb.2 _ D.TOz).trans TO'
    · exact h1'.at fun o q => (sb.2 _ D.i1z).trans q
    · exact h2'.at fun o q => (sb.2 _ D.i2z).trans q
    · have hlt : c < s.heap.objs.size := by
        have e' : c = z ∨ c = TI ∨ c = TO ∨ c = i1 ∨ c = i2 := by simpa using hcm
        rcases e' with q | q | q | q | q
        · rw [q]; exact hzl
        · rw [q]; exact Heap.lt_size hTI
        · rw [q]; exact Heap.lt_size hTO
        · rw [q]; obtain ⟨_, e1, _⟩ := h1; exact Heap.lt_size e1
        · rw [q]; obtain ⟨_, e2, _⟩ := h2; exact Heap.lt_size e2
      rw [upd_ne (Nat.ne_of_lt hlt)]
      exact (hf c hcm).1
  done := by
    intro X hP hw hK hc i pins s σ H E I hf st hg
    subst hP hw hK
    obtain ⟨hz, hTI, ⟨x0, y0, hTO⟩, h1, h2⟩ := st
    obtain ⟨xs, ys, hqx, hqy, hend⟩ := hg
    obtain ⟨its, rv, p, _⟩ := I.list hqx
    obtain ⟨its2, rv2, p2, _⟩ := I.list hqy
    have l1 := rv.length
    have l2 := rv2.length
    have he : its.toArray[i]? = none ∨ its2.toArray[i]? = none := by
      rcases hend with q | q
      · exact .inl (by simp; omega)
      · exact .inr (by simp; omega)
    exact wpAny_pyNext_zip_end (I.ok.hd hc) D hz hTI hTO h1 h2 p.isList p2.isList he fun h' hk => ⟨rfl, I.turnedL (t' := s.toks) (ch := [z, TI, TO, i1, i2]) (fun c o hb q =>
      hk c o (fun q' => hb (by simp [q'])) (fun q' => hb (by simp [q'])) (fun q' => hb (by simp [q'])) (fun q' => hb (by simp [q'])) q) hf⟩
  self := fun A i s Q E st h => wpAny_pyIter_zip st.1 h
def iZip (K : PySem.W.Frag) (ta : TA) : TI := fun σ H R => ta σ H fun vs H1 => ∃ a b xs ys, vs = [.ref a, .ref b] ∧ SqL K H1 a xs ∧ SqL K H1 b ys ∧ R (Itz K a b) H1
theorem pi_zip {X : Cx} {e e2 : Expr} {ta : TA} {p pos tpos : Pos} {elts : List Expr} {kk : Nat} (hg : Gl X "zip") (hm : X.mg "zip" = none) (ha : PA X [e, e2] ta)
    (hs : starEach [e, e2] X.env = (false, eval e X.env) :: starEach [e2] X.env := by rfl) (hpl : (backTo pos (starEach [e2] X.env)).any (·.1) = false := by rfl) :
    PI X (.Tuple elts kk tpos) (.Call (.Name "zip" p) [e, e2] [] pos) (iZip X.K ta) := by
  intro pins s σ H R I h
  refine Call_ (ld_blt I hg hm boot_zip5 (PyProof.Rows.callWith_type1 (thn (ha pos pins s σ H _ I h) fun us s1 ⟨vs, H1, I1, r1, q1⟩ => ?_) hs hpl))
  obtain ⟨a, b, xs, ys, ex, hqx, hqy, q⟩ := q1
  subst ex
  cases r1 with
  | cons r rr =>
    cases rr with
    | cons r' rr =>
      cases rr
      cases r
      cases r'
      obtain ⟨its, rv, p1, _⟩ := I1.list hqx
      obtain ⟨its2, rv2, p2, _⟩ := I1.list hqy
      have la : a < s1.heap.objs.size := p1.lt
      have lb : b < s1.heap.objs.size := p2.lt
      refine call_zip_2 p1.isList p2.isList fun h' hz hTI hTO h1 h2 hsz hk => wpAny_pyIter_zip hz ?_
      have I2 : Inv X pins σ H1 { s1 with heap := h' } := I1.kept (t' := s1.toks) hk
      refine ⟨s1.heap.objs.size + 4, [s1.heap.objs.size + 4, s1.heap.objs.size + 2, s1.heap.objs.size + 3, s1.heap.objs.size, s1.heap.objs.size + 1], _, _, H1, rfl, I2, turn_zip (PySem.W.ktu_apart s1.heap.objs.size a b la lb), ⟨hz, hTI, ⟨_, _, hTO⟩, h1, h2⟩, fun c hcm => ?_, q⟩
      have e' : c = s1.heap.objs.size + 4 ∨ c = s1.heap.objs.size + 2 ∨ c = s1.heap.objs.size + 3 ∨ c = s1.heap.objs.size ∨ c = s1.heap.objs.size + 1 := by simpa using hcm
      have hle : s1.heap.objs.size ≤ c := by
        rcases e' with z | z | z | z | z
        · rw [z]; exact Nat.le_add_right _ _
        · rw [z]; exact Nat.le_add_right _ _
        · rw [z]; exact Nat.le_add_right _ _
        · rw [z]; exact Nat.le_refl _
        · rw [z]; exact Nat.le_add_right _ _
      exact I1.fpOk hle (I1.hok.fresh hle)
end L2
section 
namespace Bits
open PySem PyProof.Rows
end Bits
end 
section 
namespace TL
open PySem PySem.Builtin PySem.Builtin.Str PySem.StrLaws
abbrev tl (x : Str) : List Nat := x.cps.toList
def pre (S l : List Nat) : Bool := l.take S.length == S
def par (S : List Nat) : List Nat → List Nat → Option (List Nat × List Nat)
  | _, [] => none
  | acc, c :: r => if pre S (c :: r) = true then some (acc, (c :: r).drop S.length) else par S (acc ++ [c]) r
end TL
end 
namespace L2
open PySem PySem.Spec PyProof.Rows
section
variable {X : Cx} {pins : List (Addr × Obj)} {σ : St} {H : Hp} {s : Shared} {Q : VK}
end
section
variable {X : Cx}
theorem mt0 {id : String} {C : Str → Prop} {g : Str → V} (rule : ∀ (a : Str) (t : Tok) (s : Shared) (Q : Value → Shared → Prop), C a → (∀ (u : Value) (k : Nat), RelV (g a) u → Q u { s with toks := k }) →
    wpAny (model X.prog X.w) X.A (call (.builtin id) [.str a t]) Q X.xe s) : MtR X id (fun x xs H Q => ∃ a, x = .str a ∧ xs = [] ∧ C a ∧ Q (g a) H) := by
  intro pins s σ H x xs v us Q I rx rs h
  obtain ⟨a, rfl, rfl, hc, h⟩ := h
  obtain ⟨t, rfl⟩ := rx
  cases rs
  exact rule a t s _ hc fun u k r => ⟨g a, H, I.tok k, r, h⟩
end
section
variable {X : Cx} {o e : Expr} {to te : TE}
end
end L2
namespace L2
open PySem PySem.Spec PyProof.Rows
section
variable {X : Cx}
end
end L2
namespace Att
open PySem PySem.W PySem.Calls PyProof.Rows
theorem ints_of_wellAll {P : Params} {h : Heap} : ∀ (ns : List Int) (vs : List Value), WellAll P h vs (ns.map WData.int) → IntsAre vs ns := by
  intro ns
  induction ns with
  | nil =>
    intro vs w
    rw [List.map_nil] at w
    cases w
    exact .nil
  | cons n ns ih =>
    intro vs w
    rw [List.map_cons] at w
    cases w with
    | cons a b =>
      cases a
      exact .cons _ _ (ih _ b)
theorem script_of {l : OpenLaw} {n : Nat} (hn : l.most = some n) {P : Params} {h : Heap} {args : List WData} {vals : List Value}
    (hpre : l.row.toRowW.claim.pre args = true) (hwl : WellAll P h vals args) :
    ∃ a vs ns, vals = [Value.ref a] ∧ args = [WData.list (ns.map WData.int)] ∧ h.get? a = some { cls := .type "list", data := .seq vs.toArray } ∧ IntsAre vs ns ∧ ns.length ≤ n := by
  have hsh : WShape.hasAll [] args [.list .int] = true := (pre_splitW hpre).1
  have hc : l.pre.holds [] { args := args } = true := (pre_splitW hpre).2
  obtain ⟨d, r, rfl, h1, h2⟩ := hasAllW_cons hsh
  obtain rfl := hasAllW_nil h2
  obtain ⟨xs, rfl, h3⟩ := hasW_list h1
  obtain ⟨ns, rfl⟩ := items_int h3
  have hlen : ns.length ≤ n := by
    unfold OpenLaw.pre at hc
    have h4 : (WTm.not (.lt (.lit (.int (n : Int))) (.len (.arg 0)))).holds [] { args := [.list (ns.map .int)] } = true := by
      have h4 := (holds_andW hc).1
      rw [hn] at h4
      exact h4
    have h5 := condW_of h4 (w_not (w_lt w_lit (w_len_list (w_arg rfl))))
    rw [List.length_map] at h5
    refine Nat.le_of_not_lt fun q => ?_
    have q' : (n : Int) < ((ns.length : Nat) : Int) := by omega
    first
      | (rw [decide_eq_true q'] at h5; exact absurd h5 (by decide))
      | (simp at h5; omega)
  cases hwl with
  | cons w1 w2 =>
    cases w2
    cases w1 with
    | list ho hall => exact ⟨_, _, ns, rfl, rfl, ho, ints_of_wellAll ns _ hall, hlen⟩
theorem post_true (l : OpenLaw) (args : List WData) : l.row.toRowW.claim.post args (.bool true) args = true :=
  postW_of (r := l.row.toRowW) (X := (true == true))
    (show WShape.has [] (.bool true) .bool = true by first | rfl | decide | simp [WShape.has, WShape.arms, WShape.armsAll])
    (show (WTm.eq .res (.lit (.bool true))).value [] { args := args, res := some (.bool true), after := args } = some (.bool (true == true)) from w_eq_bool (w_res rfl) w_lit) rfl
theorem attach {l : OpenLaw} {n : Nat} {q : Program} {loose : List Str} {XP : (Str → Option Value) → Heap → Prop} {YP : World → Heap → Prop} {d : DefRec} {x : Str}
    (hn : l.most = some n) (hdf : d.params.defaults = [])
    (hbind : ∀ pm cd doc v : Value, bindArgs (docDef d.name d.params d.body d.scope pm cd doc) ⟨[v], []⟩ = pure [(x, v)])
    (hx : d.scope.names.lookup x = some .local ∨ d.scope.names.lookup x = some .cell)
    (hk : d.scope.kind = .function) (hco : d.scope.isCoroutine = false) (hgen : d.scope.isGenerator = false)
    (body : ∀ (w : World) (s₀ s₁ s : Shared) (mg mb : Str → Option Value) (fa : Addr) (o : Obj) (pm cd doc : Value) (a : Addr) (vs : List Value) (ns : List Int),
      Ground q loose [] XP w s₀ mg mb s₁.heap → YP w s₁.heap →
      s₁.heap.get? fa = some o → o.data = .func (docDef d.name d.params d.body d.scope pm cd doc) → s₁.heap.CodeRec cd d.name → mg d.name = some (.ref fa) →
      s₁.heap.get? a = some { cls := .type "list", data := .seq vs.toArray } → IntsAre vs ns → ns.length ≤ n →
      s.gens = #[] → s.os = s₁.os →
      Fr s₁.heap s₁.heap.objs.size s.heap (bindL (envOfC d.name d.scope s₁.heap.objs.size fa cd).kindOf [(x, .ref a)] fun _ => none) →
      Cl s₁.heap.objs.size (cellsFrom (s₁.heap.objs.size + 1) d.scope.names []) s.heap (bindC (envOfC d.name d.scope s₁.heap.objs.size fa cd).kindOf [(x, .ref a)] fun _ => none) →
      wpAny (model l.prog w) (callerA.deeper (envOfC d.name d.scope s₁.heap.objs.size fa cd)) (execs d.body (envOfC d.name d.scope s₁.heap.objs.size fa cd))
        (fun f s' => f = .ret (.bool true) ∧ OldK s₁.heap s'.heap ∧ s'.os = s₁.os ∧ AllBare s'.gens) (fun _ _ => False) s) :
    WalkO q loose XP YP l.row.toRowW d [] (fun f vs => PySem.call f vs) := by
  intro w s₀ s₁ mg mb G Y fa o pm cd doc dV kV ho hd hcd hD hmg hg args vals as hpre hlay hrd hwl hlo
  obtain rfl : dV = .none := Dflts.none hD hdf
  obtain rfl : kV = .none := Dflts.noKw hD
  obtain ⟨a, vs, ns, rfl, rfl, hobj, hints, hlen⟩ := script_of hn hpre hwl
  refine enter_call ?_
  refine call_cells_ret (o := o) (by rw [depth_caller]; decide) ho (fd_plain hd) G.T.nolimit hcd (hbind pm cd doc (.ref a)) (fun y hy => ?_) (fun h₁ tk F X => ?_) hco hgen hk
  · obtain rfl : y = (x, Value.ref a) := List.mem_singleton.mp hy
    rcases hx with e | e
    · exact .inl e
    · exact .inr ⟨e, cellsFrom_some _ _ _ (.inl e)⟩
  · refine wpAny_mono (body w s₀ s₁ { s₁ with heap := h₁, toks := tk } mg mb fa o pm cd doc a vs ns G Y ho (fd_plain hd) hcd hmg hobj hints hlen hg rfl F X) (fun f s' hq => ?_) (fun _ _ hq => hq)
    obtain ⟨rfl, h2, h3, h4⟩ := hq
    exact ⟨.inl ⟨.bool true, .bool true, [], rfl, fun _ => rfl, .bool true, post_true l _, fun _ => ⟨List.Pairwise.nil, fun _ hm => (nomatch hm)⟩⟩, h2, h3, h4⟩
theorem attach_call {l : OpenLaw} {n : Nat} {q : Program} {loose : List Str} {XP : (Str → Option Value) → Heap → Prop} {YP : World → Heap → Prop} {d : DefRec}
    (hn : l.most = some n) (hdf : d.params.defaults = [])
    (call : ∀ (w : World) (s₀ s₁ : Shared) (mg mb : Str → Option Value) (fa : Addr) (o : Obj) (pm cd doc : Value) (a : Addr) (vs : List Value) (ns : List Int),
      Ground q loose [] XP w s₀ mg mb s₁.heap → YP w s₁.heap →
      s₁.heap.get? fa = some o → o.data = .func (docDef d.name d.params d.body d.scope pm cd doc) → s₁.heap.CodeRec cd d.name → mg d.name = some (.ref fa) →
      s₁.heap.get? a = some { cls := .type "list", data := .seq vs.toArray } → IntsAre vs ns → ns.length ≤ n → s₁.gens = #[] →
      codeAny (model l.prog w) callerA (.call (.ref fa) ⟨[.ref a], []⟩) (fun r s' => r = .ok (.ret (.bool true)) ∧ OldK s₁.heap s'.heap ∧ s'.os = s₁.os ∧ AllBare s'.gens) s₁) :
    WalkO q loose XP YP l.row.toRowW d [] (fun f vs => PySem.call f vs) := by
  intro w s₀ s₁ mg mb G Y fa o pm cd doc dV kV ho hd hcd hD hmg hg args vals as hpre hlay hrd hwl hlo
  obtain rfl : dV = .none := Dflts.none hD hdf
  obtain rfl : kV = .none := Dflts.noKw hD
  obtain ⟨a, vs, ns, rfl, rfl, hobj, hints, hlen⟩ := script_of hn hpre hwl
  refine enter_call (codeAny_mono (call w s₀ s₁ mg mb fa o pm cd doc a vs ns G Y ho (fd_plain hd) hcd hmg hobj hints hlen hg) fun r s' hq => ?_)
  obtain ⟨rfl, h2, h3, h4⟩ := hq
  exact ⟨.inl ⟨.bool true, .bool true, [], rfl, fun _ => rfl, .bool true, post_true l _, fun _ => ⟨List.Pairwise.nil, fun _ hm => (nomatch hm)⟩⟩, h2, h3, h4⟩
section
variable {prog : Program} {w : World} {A : Around} {E : Value → Shared → Prop} {s : Shared} {K : Frag}
end
end Att
namespace L2
open PySem PySem.Spec PyProof.Rows
theorem vals_ints : ∀ {vs : List Value} {ns : List Int}, IntsAre vs ns → Vals (ns.map V.int) vs
  | _, _, .nil => .nil
  | _, _, .cons n t h => .cons ⟨t, rfl⟩ (vals_ints h)
def Only (H : Hp) : Prop := ∀ b, H b = none ∨ ∃ o xs, H b = some (.frz o (.lst xs))
theorem law_call {P : Program} {w : World} {K : PySem.W.Frag} {mg mb : Str → Option Value} {CX : CXT} {k : Nat} {fa a : Addr} {fd : FuncData} {x : Str} {sp : Sp} {s₁ : Shared} {vs : List Value} {ns : List Int}
    (KX : K.In s₁.heap) (hns : s₁.heap.Ns mainGlobals mg) (hb : s₁.heap.Ns builtinsNs mb) (hbb : ∀ x : Str, x ≠ "__name__" → mb x = bootBuiltins x) (hlim : s₁.heap.NoLimit) (hg : s₁.gens = #[])
    (ha : s₁.heap.get? a = some { cls := .type "list", data := .seq vs.toArray }) (hi : IntsAre vs ns) (hl : ns.length ≤ sizeLine) (hr : Room k callerA)
    (F : ∀ base : Heap, K.In base → base.Ns mainGlobals mg → FnOk P w K mg base CX k fa fd [x] sp) (hbind : ∀ (s : Shared) (u : Value), BindsTo s fd ⟨[u], []⟩ [(x, u)])
    (hsp : ∀ H : Hp, Only H → SqL K H a (ns.map V.int) → sp [.ref a] H (fun v _ => v = .bl true) fun _ _ _ => False)
    (hCX : ∀ H e s', CX [] H s₁ (fun _ _ _ => False) e s' → False) :
    codeAny (model P w) callerA (.call (.ref fa) ⟨[.ref a], []⟩) (fun r s' => r = .ok (.ret (.bool true)) ∧ OldK s₁.heap s'.heap ∧ s'.os = s₁.os ∧ AllBare s'.gens) s₁ := by
  have rv := vals_ints hi
  have lenV := hi.length
  -- from an abstract heap in which nothing but the script may be tracked
  have core : ∀ H : Hp, Only H → SqL K H a (ns.map V.int) → HOk P w H s₁.heap → (∀ b, H b ≠ none → b = a) → (H a ≠ none → K.lookup a = none) →
      codeAny (model P w) callerA (.call (.ref fa) ⟨[.ref a], []⟩) (fun r s' => r = .ok (.ret (.bool true)) ∧ OldK s₁.heap s'.heap ∧ s'.os = s₁.os ∧ AllBare s'.gens) s₁ := by
    intro H hO hS hok hA hK
    have base_of : ∀ {b : Addr} {o : Obj}, s₁.heap.get? b = some o → H b = none → (hidT s₁.heap H).get? b = some o := fun e n => hidT_get e n
    have noA : ∀ {b : Addr} {o : Obj} {es : Array DictEntry} {ep : Nat}, s₁.heap.get? b = some o → o.data = .dict es ep → H b = none := fun {b o es ep} e d => by
      cases q : H b with
      | none => rfl
      | some u =>
        have e' : b = a := hA b (by rw [q]; simp)
        subst e'
        rw [ha] at e; cases e
        have d' : Data.seq vs.toArray _ = Data.dict es ep := d
        cases d'
    have nsK : ∀ {b : Addr} {m : Str → Option Value}, s₁.heap.Ns b m → (hidT s₁.heap H).Ns b m := fun {b m} ⟨o, es, ep, e, d, r⟩ => ⟨o, es, ep, base_of e (noA e d), d, r⟩
    have hKb : K.In (hidT s₁.heap H) := fun b o e => base_of (KX b o e) (by
      cases q : H b with
      | none => rfl
      | some u =>
        have e' : b = a := hA b (by rw [q]; simp)
        subst e'
        rw [hK (by rw [q]; simp)] at e; cases e)
    have hM : Mod K mg (hidT s₁.heap H) := ⟨hKb, nsK hns, ⟨mb, nsK hb, hbb⟩, let ⟨mc, h1, h2⟩ := hlim; ⟨mc, nsK h1, h2⟩⟩
    have e0 : Env0 P w K mg (hidT s₁.heap H) callerA [] s₁ H := ⟨rfl, hM, fun b o e => of_hidT e, Nat.le_of_eq (hidT_size _ _), trivial, fun b hb => absurd (show b ∈ ([] : List Addr) from hb) (by simp), hok, .of_eq hg⟩
    refine codeAny_mono ((F _ hKb (nsK hns)).run callerA [] s₁ H ⟨[.ref a], []⟩ [.ref a] [.ref a] _ _ hr e0 (hbind s₁ (.ref a)) (.cons rfl .nil) (hsp H hO hS)) fun r s' h => ?_
    cases r with
    | error e => exact (hCX H e s' h).elim
    | ok fl =>
      cases fl with
      | next => exact False.elim h
      | brk => exact False.elim h
      | cont => exact False.elim h
      | ret u =>
        obtain ⟨v, H', os, bare, un, hok', r', q⟩ := h
        have q' : v = .bl true := q
        subst q'
        obtain rfl : u = Value.bool true := r'
        refine ⟨rfl, OldK.of_keep fun b o e => ?_, os, bare⟩
        cases q : H b with
        | none => exact un.keep b o e q (by intro z; exact absurd (show b ∈ ([] : List Addr) from z) (by simp)) (by simp)
        | some u =>
          rcases hO b with z | ⟨ob, xs, z⟩
          · rw [q] at z; cases z
          · have z2 := un.frzs b ob _ z
            obtain ⟨e1, _⟩ := hok b _ z
            obtain ⟨e2, _⟩ := hok' b _ z2
            rw [e] at e1; cases e1
            exact e2
  cases hk : K.lookup a with
  | some o =>
    -- the script is one of the module's own objects
    have e := KX a o hk
    rw [ha] at e
    cases e
    refine core (fun _ => none) (fun _ => .inl rfl) (.inr ⟨_, vs.toArray, _, hk, rfl, rfl, rfl, by rw [List.size_toArray, lenV]; exact hl, by simpa using rv⟩) (fun b u z => by have z' : (none : Option HO) = some u := z; cases z') (fun b z => absurd rfl z) fun z => absurd rfl z
  | none =>
    refine core (fun b => if b = a then some (.frz { cls := .type "list", data := .seq vs.toArray } (.lst (ns.map V.int))) else none) (fun b => ?_) (.inl (.inr ⟨{ cls := .type "list", data := .seq vs.toArray }, if_pos rfl⟩)) (fun b u z => ?_) (fun b z => ?_) fun _ => hk
    · by_cases hb : b = a
      · exact .inr ⟨_, _, if_pos hb⟩
      · exact .inl (if_neg hb)
    · by_cases hb : b = a
      · have z' := (if_pos hb).symm.trans z
        cases z'
        subst hb
        exact ⟨ha, by rw [List.length_map]; exact hl, vs, _, rv, ha⟩
      · have z' := (if_neg hb).symm.trans z
        cases z'
    · by_cases hb : b = a
      · exact hb
      · exact absurd (if_neg hb) z
end L2
namespace L2
open PySem PySem.Spec PyProof.Rows
abbrev KOf {K : PySem.W.Frag} {h : Heap} (_ : K.In h) : PySem.W.Frag := K
theorem walk_of {l : PySem.W.OpenLaw} {n k : Nat} {q : Program} {loose : List Str} {XP : (Str → Option Value) → Heap → Prop} {YP : World → Heap → Prop} {d : DefRec} {K : Params → PySem.W.Frag} {CX : World → CXT} {sp : World → Sp} {x : Str}
    (hn : l.most = some n) (hn2 : n ≤ sizeLine) (hdf : d.params.defaults = []) (hr : Room k callerA)
    (hY : ∀ (w : World) (h : Heap), YP w h → (K w.params).In h)
    (F : ∀ (w : World) (mg : Str → Option Value) (fa : Addr) (h : Heap), (K w.params).In h → h.Ns mainGlobals mg → mg d.name = some (.ref fa) →
      ∃ fd : FuncData, (∀ (s : Shared) (u : Value), BindsTo s fd ⟨[u], []⟩ [(x, u)]) ∧
        ∀ base : Heap, (K w.params).In base → base.Ns mainGlobals mg → FnOk l.prog w (K w.params) mg base (CX w) k fa fd [x] (sp w))
    (hsp : ∀ (w : World) (H : Hp) (a : Addr) (ns : List Int), ns.length ≤ n → Only H → SqL (K w.params) H a (ns.map V.int) → sp w [.ref a] H (fun v _ => v = .bl true) fun _ _ _ => False)
    (hCX : ∀ (w : World) (H : Hp) (s : Shared) (e : Value) (s' : Shared), CX w [] H s (fun _ _ _ => False) e s' → False) :
    PySem.W.WalkO q loose XP YP l.row.toRowW d [] (fun f vs => PySem.call f vs) := by
  refine Att.attach_call hn hdf fun w s₀ s₁ mg mb fa o pm cd doc a vs ns G Y ho hd hcd hmg hobj hints hlen hg => ?_
  have KX := hY w _ Y
  obtain ⟨fd, hb, hF⟩ := F w mg fa _ KX G.T.g hmg
  exact law_call KX G.T.g G.T.b G.T.builtins G.T.nolimit hg hobj hints (Nat.le_trans hlen hn2) hr hF hb (fun H hO hS => hsp w H a ns hlen hO hS) fun H e s' => hCX w H s₁ e s'
end L2
/- THE LAST THEOREM (shape; LID, My.* are yours):
   My.Adr: a structure of the addresses that your layer names (classes, functions); My.Txt K t: a structure (Prop) of the equations over K;
   My.txt_mk : {K} {implicit addresses ..} (e1 : nsIn K mainGlobals "law" = some (some (.ref f))) (e2 : K.lookup f = some ⟨oc, od, .func (fnOf "law" "law" params body scope dV kV doc pm an cdv ct), sl⟩) (e3 : codeIn K cdv "law" = true) .. : ∃ t, My.Txt K t
set_option maxRecDepth 100000 in
set_option maxHeartbeats 0 in
theorem PySem.Challenge.cw_LID_holds : PySem.Challenge.rw_LID.Holds := by
  w_on; o_law; k_head; (case hw => w_witness2)
  k_fill
  refine L2.walk_of (l := PySem.Challenge.rw_LID) (n := 63) (k := 40) (x := "script") (CX := fun w => ..) (sp := fun _ => My.sp_law) rfl (by decide) rfl ⟨rfl, by decide, by decide⟩ (fun w h Y => PySem.W.kIn_of Y) ?F ?S ?C
  case F =>
    intro w mg fa h KX G hmg
    have T : ∃ t, My.Txt (L2.KOf KX) t := by
      dsimp only [L2.KOf]                          -- K must stand as «<heap const> w.params» for k_is
      refine' My.txt_mk ?e1 ?e2 ?e3 ..
      (case e1 => PySem.W.k_is)                    -- in the order: a name -> its address -> its object -> its parts
      (case e2 => PySem.W.k_is)
      ..
    obtain ⟨t, T⟩ := T
    have e0 := hmg.symm.trans (PySem.W.mg_of KX G T.law)
    cases e0                                       -- fa is the law's own address
    exact ⟨_, fun s u => .of_eq rfl, fun base kb nb => My.law_fn T kb nb⟩     -- if «.of_eq rfl» comes too early: refine' ⟨_, ?b, fun base kb nb => My.law_fn T kb nb⟩; exact fun s u => .of_eq rfl
  case S => exact fun w H a ns hl hO hS => ..
  case C => exact ..
(the tactic k_is has no namespace: write k_is) -/
namespace L2
open PySem PySem.Spec PyProof.Rows
def defArgs (s : Stmt) : Arguments := match s with
  | .FunctionDef _ a _ _ _ _ _ _ _ _ => a
  | _ => { posonlyargs := [], args := [], vararg := none, kwonlyargs := [], kw_defaults := [], kwarg := none, defaults := [] }
def defBody (s : Stmt) : List Stmt := match s with
  | .FunctionDef _ _ b _ _ _ _ _ _ _ => b
  | _ => []
def defScope (s : Stmt) : Scope := match s with
  | .FunctionDef _ _ _ _ _ _ sc _ _ _ => sc
  | _ => { kind := .function, names := [], isGenerator := false, isCoroutine := false }
abbrev CX0 : CXT := fun _ _ _ _ _ _ => False
abbrev E0 : XK := fun _ _ _ => False
theorem pass0 {X : Cx} : Passes CX0 X E0 := fun _ _ _ _ _ _ _ h => h.elim
structure Fun (K : PySem.W.Frag) (x qual : Str) (st : Stmt) (f : Addr) (fd : FuncData) : Prop where
  ex : ∃ (oc : Value) (od : Option Addr) (kV doc pm : Value) (an : Option Addr) (cdv ct : Value) (osl : Array (Option Value)),
    fd = PySem.W.fnOf x qual (defArgs st) (defBody st) (defScope st) .none kV doc pm an cdv ct ∧ K.lookup f = some ⟨oc, od, .func fd, osl⟩ ∧ PySem.W.codeIn K cdv qual = true
  kp : PySem.W.keepIn K (.ref f) = true
section
variable {P : Program} {w : World} {K : PySem.W.Frag} {mg : Str → Option Value} {base : Heap}
theorem Fun.ok {x qual : Str} {st : Stmt} {f : Addr} {fd : FuncData} {N ps : List Str} {k : Nat} {sp : Sp} (F : Fun K x qual st f fd) (S : FnScope N ps (defScope st)) (len : ∀ vs H Q E, sp vs H Q E → vs.length = ps.length)
    (hbody : ∀ (cdv : Value) (A : Around) (outer : List Env) (s : Shared) (H : Hp) (vs : List V) (Q : VK) (E : XK), Room k (A.deeper (envOfC qual (defScope st) s.heap.objs.size f cdv)) → sp vs H Q E →
      ∃ t, PSs (cxOf CX0 P w K mg base N qual (defScope st) f cdv A outer s H E).nox (defBody st) t ∧ t { nx := fun _ H' => Q .non H', rt := Q } (start N vs) H) : FnOk P w K mg base CX0 (k + 1) f fd ps sp := by
  obtain ⟨oc, od, kV, doc, pm, an, cdv, ct, osl, rfl, lk, hcd⟩ := F.ex
  refine fn_of lk hcd S len fun A outer s H vs Q E hr hsp => ?_
  obtain ⟨t, h, q⟩ := hbody cdv A outer s H vs Q E hr hsp
  exact ⟨t, h.nox, q⟩
theorem Fun.binds {x qual : Str} {st : Stmt} {f : Addr} {fd : FuncData} {ps : List Str} (F : Fun K x qual st f fd)
    (h : ∀ (kV doc pm : Value) (an : Option Addr) (cdv ct : Value) (us : List Value), us.length = ps.length → bindArgs (PySem.W.fnOf x qual (defArgs st) (defBody st) (defScope st) .none kV doc pm an cdv ct) ⟨us, []⟩ = pure (ps.zip us)) : Binds K fd ps [] := by
  obtain ⟨oc, od, kV, doc, pm, an, cdv, ct, osl, rfl, lk, hcd⟩ := F.ex
  exact .all (h kV doc pm an cdv ct)
theorem fun_mk {x qual : Str} {st : Stmt} {f : Addr} {oc : Value} {od an : Option Addr} {osl : Array (Option Value)} {kV doc pm cdv ct : Value} (l : K.lookup f = some ⟨oc, od, .func (PySem.W.fnOf x qual (defArgs st) (defBody st) (defScope st) .none kV doc pm an cdv ct), osl⟩)
    (c : PySem.W.codeIn K cdv qual = true) (k : PySem.W.keepIn K (.ref f) = true) : Fun K x qual st f (PySem.W.fnOf x qual (defArgs st) (defBody st) (defScope st) .none kV doc pm an cdv ct) := ⟨⟨oc, od, kV, doc, pm, an, cdv, ct, osl, rfl, l, c⟩, k⟩
end
section
variable {X : Cx}
theorem pv (i : Nat) {x : Str} {pos : Pos} (hN : X.N[i]? = some x := by rfl) (hv : Vis X.env.scope x := by first | exact Or.inl rfl | exact Or.inr (Or.inl rfl) | exact Or.inr (Or.inr rfl)) (hd : (x == ("__debug__" : Str)) = false := by decide)
    (hcd : (x == ("__classdict__" : Str)) = false := by decide) : PE X (.Name x pos) (tVar i) := pe_var hN hv hd hcd
end
theorem iteT {A B : Prop} (h : A) : if true = true then A else B := by
  rw [if_pos rfl]
  exact h
def Same (H H' : Hp) : Prop := ∀ b o, H b = some o → H' b = some o
theorem Same.refl (H : Hp) : Same H H := fun _ _ h => h
theorem Same.trans {H H1 H2 : Hp} (a : Same H H1) (b : Same H1 H2) : Same H H2 := fun c o h => b c o (a c o h)
theorem Same.free {H H' : Hp} (e : Same H H') {l : Addr} (h : H' l = Option.none) : H l = Option.none := by
  cases q : H l with
  | none => rfl
  | some o =>
    rw [e l o q] at h
    cases h
theorem Same.seq {K : PySem.W.Frag} {H H' : Hp} {a : Addr} {xs : List V} (e : Same H H') (h : SqL K H a xs) : SqL K H' a xs := by
  rcases h with (h | ⟨o, h⟩) | h
  · exact .inl (.inl (e _ _ h))
  · exact .inl (.inr ⟨o, e _ _ h⟩)
  · exact .inr h
section
variable {κ : Type} [DecidableEq κ]
end
theorem Same.made {H H1 : Hp} {x dx C : Addr} (nx : H x = Option.none) (nd : H dx = Option.none) (k : ∀ b o, (upd (upd H dx (.own x)) x (.ins C dx [])) b = some o → b ≠ x → H1 b = some o) : Same H H1 := fun b o e =>
  k b o (by rw [upd_ne (ne_of_none e nx), upd_ne (ne_of_none e nd)]; exact e) (ne_of_none e nx)
end L2
set_option maxHeartbeats 4000000
set_option Elab.async false
set_option linter.all false
set_option maxRecDepth 100000
set_option maxHeartbeats 4000000
namespace L2
open PySem PySem.Spec PyProof.Rows
def SdAt (H : Hp) (a : Addr) (ks : List (List Key)) : Prop := ∃ bs : List Addr, H a = some (.tup (bs.map V.ref)) ∧ Paired (fun b k => H b = some (.tup (k.map kV))) bs ks
structure Dk (κ : Type) [DecidableEq κ] where
  ho : List (κ × V) → HO
  at' : Hp → Addr → κ → Prop
  knd : (P : Program) → (w : World) → HeapKind P w κ
  ok : ∀ P w H h a kvs, ObjOk P w H h a (ho kvs) ↔ (kvs.length ≤ sizeLine ∧ (a == sysModules) = false ∧ ∃ xs : List (κ × Addr × Value),
      Paired (fun (p : κ × V) (q : κ × Addr × Value) => p.1 = q.1 ∧ at' H q.2.1 p.1 ∧ RelV p.2 q.2.2) kvs xs ∧ ∃ o es ep, h.get? a = some o ∧ o.ExactDict ∧ o.data = .dict es ep ∧ es.toList = xs.map (entryOfKey (knd P w)) ∧ (xs.map (·.1)).Nodup)
  key : ∀ {P w H h a k}, HOk P w H h → at' H a k → (knd P w).is h k a
  keep : ∀ {H H' : Hp} {a k}, at' H a k → (∀ b xs, H b = some (.tup xs) → H' b = some (.tup xs)) → at' H' a k
  tup : ∀ {H a k}, at' H a k → ∃ xs, H a = some (.tup xs)
  room : ∀ {P w} {A : Around}, A.units + 2 < cLine → (knd P w).room A.in1
  wr : ∀ kvs, Mut (some (ho kvs))
  ntup : ∀ kvs xs, ho kvs ≠ .tup xs
def dkT : Dk (List Key) where
  ho := .dT
  at' := fun H a k => H a = some (.tup (k.map kV))
  knd := fun P w => tupleKind (mixKind P w)
  ok := fun P w H h a kvs => Iff.rfl
  key := fun ok e => key_of ok e
  keep := fun e ht => ht _ _ e
  tup := fun e => ⟨_, e⟩
  room := fun {P w A} h => by show A.in1.units < cLine; rw [Around.in1_units]; omega
  wr := fun _ => trivial
  ntup := fun _ _ z => nomatch z
theorem side_of {P : Program} {w : World} {H : Hp} {h : Heap} {a : Addr} {ks : List (List Key)} (ok : HOk P w H h) (e : SdAt H a ks) : (sideKind P w).is h ks a := by
  obtain ⟨bs, e, q⟩ := e
  obtain ⟨_, its, r, o, h1, h2, n, h3⟩ := (show ObjOk P w H h a (.tup (bs.map V.ref)) from ok a _ e)
  refine ⟨o, its.toArray, n, h1, h2, h3, ?_⟩
  have all : ∀ {bs : List Addr} {ks : List (List Key)} {its : List Value}, Paired (fun b k => H b = some (.tup (k.map kV))) bs ks → Vals (bs.map V.ref) its → ItH (tupleKind (mixKind P w)) h ks its := by
    intro bs ks its q
    induction q generalizing its with
    | nil => intro r; cases r; exact .nil
    | cons hb _ ih =>
      intro r
      cases r with
      | cons r1 r2 => exact .cons ⟨_, r1, key_of ok hb⟩ (ih r2)
  exact all q r
def dkP : Dk (List (List Key)) where
  ho := .dP
  at' := SdAt
  knd := fun P w => sideKind P w
  ok := fun P w H h a kvs => Iff.rfl
  key := fun ok e => side_of ok e
  keep := fun ⟨bs, e, q⟩ ht => ⟨bs, ht _ _ e, Paired.mapP q fun _ _ z => ht _ _ z⟩
  tup := fun ⟨bs, e, _⟩ => ⟨_, e⟩
  room := fun {P w A} h => by show A.in1.units + 1 < cLine; rw [Around.in1_units]; omega
  wr := fun _ => trivial
  ntup := fun _ _ z => nomatch z
section
variable {κ : Type} [DecidableEq κ] (𝔡 : Dk κ)
abbrev Kd (H : Hp) : List (κ × V) → List (κ × Addr × Value) → Prop := Paired fun p q => p.1 = q.1 ∧ 𝔡.at' H q.2.1 p.1 ∧ RelV p.2 q.2.2
variable {𝔡}
theorem Kd.val {H : Hp} {kvs : List (κ × V)} {xs : List (κ × Addr × Value)} (r : Kd 𝔡 H kvs xs) (k : κ) : RelO (valV kvs k) ((atKey xs k).map (·.2)) := by
  induction r with
  | nil => exact True.intro
  | @cons p q ps qs h t ih =>
    obtain ⟨h1, _, h2⟩ := h
    by_cases e : p.1 = k
    · have e' : q.1 = k := h1.symm.trans e
      have b : atKey (q :: qs) k = some q.2 := by simp [atKey, List.find?_cons, e']
      rw [valV_pos e, b]; exact h2
    · have e' : ¬ q.1 = k := fun z => e (h1.trans z)
      have b : atKey (q :: qs) k = atKey qs k := by simp [atKey, List.find?_cons, e']
      rw [valV_neg e, b]; exact ih
theorem Kd.repl {H : Hp} {kvs : List (κ × V)} {xs : List (κ × Addr × Value)} (r : Kd 𝔡 H kvs xs) (k : κ) {y : V} {u : Value} (ry : RelV y u) :
    Kd 𝔡 H (kvs.map fun kv => if kv.1 = k then (kv.1, y) else kv) (xs.map (putAt k u)) := by
  induction r with
  | nil => exact .nil
  | @cons p q ps qs h t ih =>
    rw [List.map_cons, List.map_cons]
    refine .cons ?_ ih
    obtain ⟨h1, h2, h3⟩ := h
    unfold putAt
    by_cases e : p.1 = k
    · rw [if_pos e, if_pos (h1.symm.trans e)]; exact ⟨h1, h2, ry⟩
    · rw [if_neg e, if_neg (fun z => e (h1.trans z))]; exact ⟨h1, h2, h3⟩
theorem Kd.put {H : Hp} {kvs : List (κ × V)} {xs : List (κ × Addr × Value)} (r : Kd 𝔡 H kvs xs) (k : κ) {b : Addr} {y : V} {u : Value} (hb : 𝔡.at' H b k) (ry : RelV y u) : Kd 𝔡 H (putK kvs k y) (storedH xs k b u) := by
  have e : (kvs.any fun kv => decide (kv.1 = k)) = (atKey xs k).isSome := by
    rw [valV_any, (r.val k).isSome_eq, Option.isSome_map]
  unfold putK storedH
  rw [e]
  by_cases q : (atKey xs k).isSome = true
  · rw [if_pos q, if_pos q]; exact r.repl k ry
  · rw [if_neg q, if_neg q]; exact Paired.snoc r ⟨rfl, hb, ry⟩
theorem Kd.keeps {H H' : Hp} {kvs : List (κ × V)} {xs : List (κ × Addr × Value)} (r : Kd 𝔡 H kvs xs) (ht : ∀ b ys, H b = some (.tup ys) → H' b = some (.tup ys)) : Kd 𝔡 H' kvs xs :=
  Paired.mapP r fun _ _ z => ⟨z.1, 𝔡.keep z.2.1 ht, z.2.2⟩
variable {P : Program} {w : World} {H : Hp} {h : Heap} {a : Addr}
theorem dd_rd {kvs : List (κ × V)} (ok : HOk P w H h) (e : Rd H a (𝔡.ho kvs)) : kvs.length ≤ sizeLine ∧ (a == sysModules) = false ∧ ∃ xs, Kd 𝔡 H kvs xs ∧ h.DictOfH (𝔡.knd P w) a xs := by
  obtain ⟨z, y, xs, r, o, es, ep, h1, h2, h3, h4, h5⟩ := (𝔡.ok P w H h a kvs).mp (rd_of ok e)
  refine ⟨z, y, xs, r, o, es, ep, h1, h2, h3, h4, fun x hx => ?_, h5⟩
  have all : ∀ {l : List (κ × V)} {m : List (κ × Addr × Value)}, Kd 𝔡 H l m → ∀ x ∈ m, (𝔡.knd P w).is h x.1 x.2.1 := by
    intro l m q
    induction q with
    | nil => intro x hx; exact nomatch hx
    | @cons p q ps qs hq t ih =>
      intro x hx
      rcases List.mem_cons.mp hx with e | hx
      · subst e
        rw [← hq.1]
        exact 𝔡.key ok hq.2.1
      · exact ih x hx
  exact all r x hx
end
section
variable {κ : Type} [DecidableEq κ] {𝔡 : Dk κ} {X : Cx} {pins : List (Addr × Obj)} {σ : St} {H : Hp} {s : Shared} {a b : Addr} {v : V} {r : Value} {k : κ} {kvs : List (κ × V)} {A : Around} {E : Value → Shared → Prop}
theorem dd_getItem {Q : Value → Shared → Prop} (hu : A.units + 2 < cLine) (I : Inv X pins σ H s) (e : Rd H a (𝔡.ho kvs)) (eb : 𝔡.at' H b k) (l : valV kvs k = some v) (h : ∀ w' s', Inv X pins σ H s' → RelV v w' → Q w' s') :
    wpAny (model X.prog X.w) A (getItem (.ref a) (.ref b)) Q E s := by
  obtain ⟨z, hd, xs, rel, dd⟩ := dd_rd I.hok e
  obtain ⟨w', hw, rw'⟩ := RelO.some_of (v := v) (o := (atKey xs k).map (·.2)) (by rw [← l]; exact rel.val k)
  obtain ⟨p, hp, hp2⟩ := Option.map_eq_some_iff.mp hw
  refine wpAny_getItem_heap (𝔡.room hu) (𝔡.key I.hok eb) dd hp ?_
  rw [hp2]
  exact h w' _ (I.tok _) rw'
theorem dd_in {Q : Value → Shared → Prop} (hu : A.units + 2 < cLine) (I : Inv X pins σ H s) (e : Rd H a (𝔡.ho kvs)) (eb : 𝔡.at' H b k) (h : ∀ s', Inv X pins σ H s' → Q (.bool (valV kvs k).isSome) s') :
    wpAny (model X.prog X.w) A (compareOp .In (.ref b) (.ref a)) Q E s := by
  obtain ⟨z, hd, xs, rel, dd⟩ := dd_rd I.hok e
  refine wpAny_in_heap (𝔡.room hu) (𝔡.key I.hok eb) hd dd ?_
  have q := (rel.val k).isSome_eq
  rw [Option.isSome_map] at q
  rw [← q]
  exact h _ (I.tok _)
theorem dd_notIn {Q : Value → Shared → Prop} (hu : A.units + 2 < cLine) (I : Inv X pins σ H s) (e : Rd H a (𝔡.ho kvs)) (eb : 𝔡.at' H b k) (h : ∀ s', Inv X pins σ H s' → Q (.bool (!(valV kvs k).isSome)) s') :
    wpAny (model X.prog X.w) A (compareOp .NotIn (.ref b) (.ref a)) Q E s := by
  obtain ⟨z, hd, xs, rel, dd⟩ := dd_rd I.hok e
  refine wpAny_notIn_heap (𝔡.room hu) (𝔡.key I.hok eb) hd dd ?_
  have q := (rel.val k).isSome_eq
  rw [Option.isSome_map] at q
  rw [← q]
  exact h _ (I.tok _)
theorem dd_new {h' : Heap} {t' : Nat} {xs : List (κ × Addr × Value)} {u : Value} (I : Inv X pins σ H s) (e : H a = some (𝔡.ho kvs)) (eb : 𝔡.at' H b k) (l : kvs.length < sizeLine) (rel : Kd 𝔡 H kvs xs) (hd : (a == sysModules) = false) (rv : RelV v u)
    (dd' : h'.DictOfH (𝔡.knd X.prog X.w) a (storedH xs k b u)) (hs : Heap.SameBut a s.heap h') : Inv X pins σ (upd H a (𝔡.ho (putK kvs k v))) { s with heap := h', toks := t' } := by
  have hl : (putK kvs k v).length ≤ sizeLine := by have := length_putK kvs k v; omega
  obtain ⟨q, es, ep, hq, h2, h3, h4, _, h5⟩ := dd'
  refine d_write I (by rw [e]; exact 𝔡.wr _) hs ⟨q, hq⟩ ((𝔡.ok _ _ _ _ _ _).mpr ⟨hl, hd, _, (rel.put k eb rv).keeps fun c ys ec => ?_, q, es, ep, hq, h2, h3, h4, h5⟩)
  rw [upd_ne (ne_of ec e (fun z => 𝔡.ntup _ _ z.symm))]
  exact ec
theorem dd_setItem {Q : Unit → Shared → Prop} (hu : A.units + 2 < cLine) (I : Inv X pins σ H s) (e : H a = some (𝔡.ho kvs)) (eb : 𝔡.at' H b k) (l : kvs.length < sizeLine) (rv : RelV v r) (h : ∀ s', Inv X pins σ (upd H a (𝔡.ho (putK kvs k v))) s' → Q () s') :
    wpAny (model X.prog X.w) A (setItem (.ref a) (.ref b) r) Q E s := by
  obtain ⟨z, hd, xs, rel, dd⟩ := dd_rd I.hok (.inl e)
  have hz : xs.length ≤ sizeLine := by rw [← Paired.length rel]; exact z
  exact wpAny_setItem_heap (hsz := hz) (𝔡.room hu) (𝔡.key I.hok eb) dd fun h' dd' hs => h _ (dd_new I e eb l rel hd rv dd' hs)
theorem dd_dictSet {Q : Unit → Shared → Prop} (hu : A.units + 2 < cLine) (I : Inv X pins σ H s) (e : H a = some (𝔡.ho kvs)) (eb : 𝔡.at' H b k) (l : kvs.length < sizeLine) (rv : RelV v r) (h : ∀ s', Inv X pins σ (upd H a (𝔡.ho (putK kvs k v))) s' → Q () s') :
    wpAny (model X.prog X.w) A (dictSet a (.ref b) r) Q E s := by
  obtain ⟨z, hd, xs, rel, dd⟩ := dd_rd I.hok (.inl e)
  have hz : xs.length ≤ sizeLine := by rw [← Paired.length rel]; exact z
  refine wpAny_of_in1 ?_
  exact wpAny_dictSet_heap (hsz := hz) (𝔡.room hu) (𝔡.key I.hok eb) dd fun h' dd' hs => h _ (dd_new I e eb l rel hd rv dd' hs)
end
end L2
set_option Elab.async false
set_option linter.all false
set_option maxRecDepth 100000
set_option maxHeartbeats 4000000
namespace L2
open PySem PySem.Spec PyProof.Rows
theorem Dk.empty {κ : Type} [DecidableEq κ] (𝔡 : Dk κ) {P : Program} {w : World} {H : Hp} (h : Heap) (hb : sysModules < h.objs.size) : ObjOk P w H (h.push { cls := .type "dict", data := .dict #[] }) h.objs.size (𝔡.ho []) :=
  (𝔡.ok _ _ _ _ _ _).mpr ⟨Nat.zero_le _, beq_eq_false_iff_ne.mpr (Ne.symm (Nat.ne_of_lt hb)), [], .nil, _, #[], 0, Heap.get?_push_size _ rfl, ⟨rfl, rfl, rfl⟩, rfl, rfl, List.nodup_nil⟩
theorem compLoop_anyD {prog : Program} {w : World} {A : Around} {R : Result → Shared → Prop} {s : Shared} {kx vx target iter : Expr} {ifs : List Expr} {scope : Scope} {pos : Pos} {it : Value} {D : Addr} {env : Env} (I : Nat → Shared → Prop)
    (turn : ∀ n s, I n s → wpAny (model prog w) A (pyNext it) (fun r s₁ => match r with
      | none => R (.ok .next) s₁
      | some v => wpAny (model prog w) A (letOwnedTupleGo target it v) (fun _ s₁' => wpAny (model prog w) A (assign target env v) (fun _ s₂ =>
          wpAny (model prog w) A (forIn ifs true fun c r => if r = true then do let ok ← isTrue c env (eval c env); pure (ForInStep.yield ok) else pure (ForInStep.yield r)) (fun ok s₃ =>
            if ok = true then wpAny (model prog w) A (eval kx env) (fun kv s₄ => wpAny (model prog w) A (eval vx env) (fun vv s₅ =>
              wpAny (model prog w) A (dictSet D kv vv) (fun _ s₆ => ∃ m, m < n ∧ I m s₆) (notedBy (model prog w) A env fun e s' => R (.error e) s') s₅) (notedBy (model prog w) A env fun e s' => R (.error e) s') s₄) (notedBy (model prog w) A env fun e s' => R (.error e) s') s₃
            else ∃ m, m < n ∧ I m s₃) (notedBy (model prog w) A env fun e s' => R (.error e) s') s₂) (notedBy (model prog w) A env fun e s' => R (.error e) s') s₁') (notedBy (model prog w) A env fun e s' => R (.error e) s') s₁) (notedBy (model prog w) A env fun e s' => R (.error e) s') s)
    (n : Nat) (h : I n s) :
    codeAny (model prog w) A (.compLoop (.DictComp kx vx [⟨target, iter, ifs, 0⟩] scope pos) 0 it (.ref D) env) R s := by
  refine codeAny_loop rfl I (fun n s hI => ?_) n h
  show wpAny _ A ((compTurn (.DictComp kx vx [⟨target, iter, ifs, 0⟩] scope pos) 0 it (.ref D) env).onRaise (fun x => do noteFrame x env; theTreesLotGoes x)) _ _ s
  refine wpAny_noted ?_
  rw [compTurn_dict]
  refine wpAny_bind (wpAny_standAt (wpAny_bind (wpAny_mono (turn n s hI) (fun r s₁ h₁ => ?_) fun _ _ h' => h')))
  cases r with
  | none => exact wpAny_pure h₁
  | some v =>
    refine wpAny_bind (wpAny_mono h₁ (fun _ s₁' h₁' => ?_) fun _ _ h' => h')
    refine wpAny_bind (wpAny_mono h₁' (fun _ s₂ h₂ => wpAny_bind (wpAny_mono h₂ (fun ok s₃ h₃ => ?_) fun _ _ h' => h')) fun _ _ h' => h')
    cases ok with
    | false => exact wpAny_pure ⟨rfl, h₃⟩
    | true =>
      refine wpAny_bind (wpAny_bind (wpAny_mono h₃ (fun kv s₄ h₄ => wpAny_bind (wpAny_holding (wpAny_mono h₄ (fun vv s₅ h₅ => ?_) fun _ _ q => q))) fun _ _ q => q))
      exact wpAny_bind (wpAny_standAt (wpAny_holding (wpAny_mono h₅ (fun _ s₆ h₆ => wpAny_pure ⟨rfl, h₆⟩) fun _ _ q => q)))
section
variable {X : Cx} {κ : Type} [DecidableEq κ] {𝔡 : Dk κ}
def tDc (𝔡 : Dk κ) (wi : TI) (g : TG) (tt : TT) (tk tv : TE) (vs : List Nat) : TE := fun σ H Q => wi σ H fun J H1 => ∀ D, H1 D = none → ∃ W : Nat → Nat → Hp → Prop, (∃ m, W 0 m (upd H1 D (𝔡.ho []))) ∧ ∀ i m H, W i m H →
  (J.stop i H ∧ Q (.ref D) H) ∨ (J.go i H ∧ ∃ Nx : Hp → Prop, (∀ H', Nx H' → ∃ m', m' < m ∧ W (i + 1) m' H') ∧ ∀ x H', J.yld i H x H' → g x (wipe σ vs) H' fun σ2 H2 => wipe σ2 vs = wipe σ vs ∧ tt σ2 H2 fun b H3 =>
    if b = true then tk σ2 H3 fun y H4 => tv σ2 H4 fun z H5 => ∃ p k kvs, y = .ref p ∧ 𝔡.at' H5 p k ∧ H5 D = some (𝔡.ho kvs) ∧ kvs.length < sizeLine ∧ Nx (upd H5 D (𝔡.ho (putK kvs k z))) else Nx H3)
theorem dc_core {pins : List (Addr × Obj)} {s : Shared} {σ : St} {H : Hp} {Q : VK} {kx vx tg iter : Expr} {ifs : List Expr} {scope : Scope} {own : List (Str × Nat)} {pos pos' : Pos} {wi : TI} {g : TG} {tt : TT} {tk tv : TE} {use : Option (Value → Sem Unit)} {Qf : Value → Shared → Prop}
    (hc : X.calm = true) (hN : X.N.Nodup) (I : Inv X pins σ H s) (hi : PI X tg iter wi) (ok : BlkOk X.N X.env.scope scope own)
    (hg : ∀ (s : Shared) (H : Hp) (C : Addr) (cl : List (Str × Addr)) (fp : List Addr), PG (X.blk s H scope (compEnvC scope cl C X.env) fp) tg g) (ht : ∀ (s : Shared) (H : Hp) (C : Addr) (cl : List (Str × Addr)) (fp : List Addr), PTs (X.blk s H scope (compEnvC scope cl C X.env) fp) ifs tt)
    (hk : ∀ (s : Shared) (H : Hp) (C : Addr) (cl : List (Str × Addr)) (fp : List Addr), PE (X.blk s H scope (compEnvC scope cl C X.env) fp) kx tk)
    (hv : ∀ (s : Shared) (H : Hp) (C : Addr) (cl : List (Str × Addr)) (fp : List Addr), PE (X.blk s H scope (compEnvC scope cl C X.env) fp) vx tv) (hu : X.A.units + 2 < cLine) (hs : ∀ x, foldedSetIterable iter X.env x = pure x)
    (h : tDc 𝔡 wi g tt tk tv (own.map (·.2)) σ H Q)
    (hRR : ∀ D C s' m H', Inv X pins σ H' s' → Q (.ref D) H' → s'.heap.Ns C m → FpOk X pins H' C → compPost (model X.prog X.w) X.A X.xe use Qf (.ref D) C (.ok .next) s') :
    wpAny (model X.prog X.w) X.A (comprehension (.DictComp kx vx [⟨tg, iter, ifs, 0⟩] scope pos) scope X.env pos' newDict false (eval iter X.env) use) Qf X.xe s := by
  have hfree : ∀ y ∈ scope.names, y.2 = .free → ∃ c, X.env.cells.lookup y.1 = some c := fun y hy e => by
    rcases ok.free y hy e with k | k
    · exact I.ok.has _ (.inl k)
    · exact I.ok.has _ (.inr k)
  refine wpAny_comprehension_free (use := use) rfl hs (closure_ok hfree) ok.kind (fun y hy e => by rw [ok.uniq y hy, e])
    (thn (hi pins s σ H _ I h) fun xv s1 hx => thn hx fun itv s2 h2 => ?_)
  obtain ⟨it, fp, tn, J, H2, e, I2, T, st2, f2, q⟩ := h2
  subst e
  refine wpAny_newObj_type (newEnv_comp ?_)
  generalize hD : s2.heap.objs.size = D
  have hDn : H2 D = none := I2.hok.fresh (Nat.le_of_eq hD)
  obtain ⟨W, ⟨m0, w0⟩, turn⟩ := q D hDn
  -- the new list
  generalize hs3 : ({ s2 with heap := s2.heap.push { cls := .type "dict", data := .dict #[] } } : Shared) = s3
  have I3 : Inv X pins σ (upd H2 D (𝔡.ho [])) s3 := by
    rw [← hs3]
    refine I2.laid (t' := s2.toks) (fun b o e => Heap.get?_push_of_some _ e) (Nat.le_of_eq hD) ?_
    rw [← hD]
    exact 𝔡.empty s2.heap I2.big
  have h3 : s3.heap = s2.heap.push { cls := .type "dict", data := .dict #[] } := by rw [← hs3]
  have sz : ∀ b ∈ fp, b < s2.heap.objs.size := fun b hb => by
    obtain ⟨o, e, _⟩ := T.obj _ _ st2 b hb
    exact Heap.lt_size e
  have f3 : ∀ b ∈ fp, FpOk X pins (upd H2 D (𝔡.ho [])) b ∧ b < s3.heap.objs.size := fun b hb => by
    have hlt := sz b hb
    refine ⟨⟨?_, (f2 b hb).2⟩, by rw [h3, Heap.size_push]; exact Nat.lt_succ_of_lt hlt⟩
    rw [upd_ne (by rw [← hD]; exact Nat.ne_of_lt hlt)]
    exact (f2 b hb).1
  have st3 : tn 0 s3.heap := T.keep _ _ _ st2 fun b _ o e => by rw [h3]; exact Heap.get?_push_of_some _ e
  have I4 := block_start I3 ok hN f3
  have pg := hg s3 (upd H2 D (𝔡.ho [])) s3.heap.objs.size (cellsFrom (s3.heap.objs.size + 1) scope.names (cloFrom X.env.cells scope.names [])) fp
  have pt := ht s3 (upd H2 D (𝔡.ho [])) s3.heap.objs.size (cellsFrom (s3.heap.objs.size + 1) scope.names (cloFrom X.env.cells scope.names [])) fp
  have pk := hk s3 (upd H2 D (𝔡.ho [])) s3.heap.objs.size (cellsFrom (s3.heap.objs.size + 1) scope.names (cloFrom X.env.cells scope.names [])) fp
  have pv := hv s3 (upd H2 D (𝔡.ho [])) s3.heap.objs.size (cellsFrom (s3.heap.objs.size + 1) scope.names (cloFrom X.env.cells scope.names [])) fp
  show codeAny _ _ (.compStart (.DictComp kx vx [⟨tg, iter, ifs, 0⟩] scope pos) 0 (.ref it) (.ref D) (compEnvC scope (cellsFrom (s3.heap.objs.size + 1) scope.names (cloFrom X.env.cells scope.names [])) s3.heap.objs.size X.env)) (compPost (model X.prog X.w) X.A X.xe use Qf (.ref D) s3.heap.objs.size) { s3 with heap := pushCells (s3.heap.push { cls := .type "dict", data := .dict #[] }) scope.names }
  have nfp : ∀ b ∈ fp, (upd H2 D (𝔡.ho [])) b = none := fun b hb => (f3 b hb).1.1
  generalize hce : compEnvC scope (cellsFrom (s3.heap.objs.size + 1) scope.names (cloFrom X.env.cells scope.names [])) s3.heap.objs.size X.env = ce at I4 pg pt pk pv ⊢
  have cL : ce.locals = s3.heap.objs.size := by subst hce; rfl
  generalize hH3 : upd H2 D (𝔡.ho []) = H3 at I3 I4 pg pt pk pv w0 nfp f3
  generalize hs4 : ({ s3 with heap := pushCells (s3.heap.push { cls := .type "dict", data := .dict #[] }) scope.names } : Shared) = s4 at I4 ⊢
  have st4 : tn 0 s4.heap := T.keep _ _ _ st3 fun b _ o e => by rw [← hs4]; exact pushCells_keeps _ _ _ _ (Heap.get?_push_of_some _ e)
  have stat : ∀ {σ' : St} {H' : Hp} {s' : Shared}, Inv (X.blk s3 H3 scope ce fp) [] σ' H' s' → (∀ b ∈ fp, H' b = none) → ∀ b ∈ fp, FpOk (X.blk s3 H3 scope ce fp) [] H' b := fun {σ' H' s'} I' hn b hb =>
    ⟨hn b hb, (I'.ok.exf b hb).1, I'.ok.exfs b hb, .inl hb, fun x c e => (I'.ok.exf b hb).2 x c e, fun p hp => absurd (show p ∈ ([] : List (Addr × Obj)) ++ [] from hp) (by simp)⟩
  have loop : codeAny (model X.prog X.w) X.A (.compLoop (.DictComp kx vx [⟨tg, iter, ifs, 0⟩] scope pos) 0 (.ref it) (.ref D) ce) (compPost (model X.prog X.w) X.A X.xe use Qf (.ref D) s3.heap.objs.size) s4 := by
    refine compLoop_anyD (fun n s' => ∃ i H', Inv (X.blk s3 H3 scope ce fp) [] (wipe σ (own.map (·.2))) H' s' ∧ tn i s'.heap ∧ (∀ b ∈ fp, H' b = none) ∧ W i n H') ?_ m0 ⟨0, H3, I4, st4, nfp, w0⟩
    rintro n s5 ⟨i, H5, I5, st5, n5, w5⟩
    rcases turn i n H5 w5 with ⟨stop, qq⟩ | ⟨go, Nx, hNx, step⟩
    · have td := T.done (X.blk s3 H3 scope ce fp) rfl rfl rfl hc i [] s5 _ H5 (fun _ _ => False) I5 (stat I5 n5) st5 stop
      refine thnF td fun r s6 ⟨hr, I6⟩ => ?_
      subst hr
      -- back in the def's context
      have I7 : Inv X pins σ H5 s6 := I3.call' (ch := fp) I6.os I6.base I6.hok I6.bare fun b hb => ⟨(f3 b hb).1.2.2.2.1, (f3 b hb).1.2.1, (f3 b hb).1.2.2.2.2.1, (f3 b hb).1.2.2.2.2.2⟩
      have nC : H5 s3.heap.objs.size = none := by
        have z : H5 ce.locals = none := I6.free
        rw [cL] at z
        exact z
      obtain ⟨m, hn, _⟩ := I6.loc
      have hn : s6.heap.Ns ce.locals m := hn
      rw [cL] at hn
      exact hRR D s3.heap.objs.size s6 m H5 I7 qq hn (I3.fpOk (Nat.le_refl _) nC)
    · have ti := T.item (X.blk s3 H3 scope ce fp) rfl rfl rfl hc i [] s5 _ H5 (fun _ _ => False) I5 (stat I5 n5) st5 go
      refine thnF ti fun r s6 ⟨u, hr, h6⟩ => ?_
      subst hr
      refine thnF h6 fun _ s7 ⟨x, H7, I7, r7, y7, st7, n7⟩ => ?_
      have I7' := I7.pinned (stat I7 n7) (T.obj _ _ st7)
      refine thnF (pg _ s7 _ H7 x u _ I7' r7 (step x H7 y7)) fun _ s8 ⟨σ8, H8, I8, hw8, q8⟩ => ?_
      refine thnF (pt _ s8 σ8 H8 _ I8 q8) fun b s9 ⟨H9, I9, q9⟩ => ?_
      -- the turn's end
      have fin : ∀ {s' : Shared} {H' : Hp}, Inv (X.blk s3 H3 scope ce fp) ([] ++ pinsAt fp s7.heap) σ8 H' s' → Nx H' → ∃ m, m < n ∧ ∃ i H', Inv (X.blk s3 H3 scope ce fp) [] (wipe σ (own.map (·.2))) H' s' ∧ tn i s'.heap ∧ (∀ b ∈ fp, H' b = none) ∧ W i m H' := fun {s' H'} I' nx => by
        obtain ⟨m', hm, w'⟩ := hNx H' nx
        have pin' : ∀ b ∈ fp, ∀ o, s7.heap.get? b = some o → s'.heap.get? b = some o ∧ H' b = none := fun b hb o e =>
          let z := I'.pin (b, o) (List.mem_append_right _ (List.mem_append_right _ (mem_pinsAt hb e)))
          ⟨z.1, z.2.1⟩
        have hl : (wipe σ (own.map (·.2))).length = σ8.length := by rw [← hw8, wipe_length]
        refine ⟨m', hm, i + 1, H', (I'.unpinned (pins := [])).weak hl (fun j v e => ?_), T.keep _ _ _ st7 fun b hb o e => (pin' b hb o e).1, fun b hb => ?_, w'⟩
        · rw [← hw8] at e
          exact (wipe_some e).1
        · obtain ⟨o, e, _⟩ := T.obj _ _ st7 b hb
          exact (pin' b hb o e).2
      cases b with
      | false =>
        simp only [Bool.false_eq_true, if_false] at q9 ⊢
        exact fin I9 q9
      | true =>
        simp only [if_true] at q9 ⊢
        refine thnF (pk _ s9 σ8 H9 _ I9 q9) fun u10 s10 ⟨y10, H10, I10, r10, q10⟩ => ?_
        refine thnF (pv _ s10 σ8 H10 _ I10 q10) fun u11 s11 ⟨z11, H11, I11, r11, p, kk, kvs, ey, hat, hD11, hz11, nx⟩ => ?_
        subst ey
        cases (show u10 = Value.ref p from r10)
        exact dd_dictSet (X := X.blk s3 H3 scope ce fp) hu I11 hD11 hat hz11 r11 fun s12 I12 => fin I12 nx
  exact codeAny_compStart_dict loop (T.self X.A 0 _ _ _ st4 loop)
theorem pe_dc {kx vx tg iter : Expr} {ifs : List Expr} {scope : Scope} {own : List (Str × Nat)} {pos : Pos} {wi : TI} {g : TG} {tt : TT} {tk tv : TE} (hc : X.calm = true) (hN : X.N.Nodup) (hi : PI X tg iter wi) (ok : BlkOk X.N X.env.scope scope own)
    (hg : ∀ (s : Shared) (H : Hp) (C : Addr) (cl : List (Str × Addr)) (fp : List Addr), PG (X.blk s H scope (compEnvC scope cl C X.env) fp) tg g) (ht : ∀ (s : Shared) (H : Hp) (C : Addr) (cl : List (Str × Addr)) (fp : List Addr), PTs (X.blk s H scope (compEnvC scope cl C X.env) fp) ifs tt)
    (hk : ∀ (s : Shared) (H : Hp) (C : Addr) (cl : List (Str × Addr)) (fp : List Addr), PE (X.blk s H scope (compEnvC scope cl C X.env) fp) kx tk)
    (hv : ∀ (s : Shared) (H : Hp) (C : Addr) (cl : List (Str × Addr)) (fp : List Addr), PE (X.blk s H scope (compEnvC scope cl C X.env) fp) vx tv) (hu : X.A.units + 2 < cLine) (hs : ∀ x, foldedSetIterable iter X.env x = pure x := by intro _; rfl) :
    PE X (.DictComp kx vx [⟨tg, iter, ifs, 0⟩] scope pos) (tDc 𝔡 wi g tt tk tv (own.map (·.2))) := by
  intro pins s σ H Q I h
  rw [arm_eval_DictComp]
  refine dc_core hc hN I hi ok hg ht hk hv hu hs h fun D C s' m H' I' q hn f => ⟨m, hn, fun h'' sb => ?_⟩
  obtain ⟨f0, f1, f2, f3, f4, f5⟩ := f
  exact ⟨.ref D, H', I'.turned (t' := s'.toks) (fun b o hb e => (sb.2 b hb).trans e) f0 f1 f3 f4 f5, rfl, q⟩
theorem ps_setDc {i : Nat} {y : Str} {py : Pos} {kx vx tg iter : Expr} {ifs : List Expr} {scope : Scope} {own : List (Str × Nat)} {pos spos : Pos} {wi : TI} {g : TG} {tt : TT} {tk tv : TE} (hc : X.calm = true) (hN : X.N.Nodup) (hy : X.N[i]? = some y) (hyl : X.env.scope.names.lookup y = some .local)
    (hsw : swapsWith (.DictComp kx vx [⟨tg, iter, ifs, 0⟩] scope pos) (some (.Name y py)) spos.line X.env = pure true) (hi : PI X tg iter wi) (ok : BlkOk X.N X.env.scope scope own)
    (hg : ∀ (s : Shared) (H : Hp) (C : Addr) (cl : List (Str × Addr)) (fp : List Addr), PG (X.blk s H scope (compEnvC scope cl C X.env) fp) tg g) (ht : ∀ (s : Shared) (H : Hp) (C : Addr) (cl : List (Str × Addr)) (fp : List Addr), PTs (X.blk s H scope (compEnvC scope cl C X.env) fp) ifs tt)
    (hk : ∀ (s : Shared) (H : Hp) (C : Addr) (cl : List (Str × Addr)) (fp : List Addr), PE (X.blk s H scope (compEnvC scope cl C X.env) fp) kx tk)
    (hv : ∀ (s : Shared) (H : Hp) (C : Addr) (cl : List (Str × Addr)) (fp : List Addr), PE (X.blk s H scope (compEnvC scope cl C X.env) fp) vx tv) (hu : X.A.units + 2 < cLine) (hs : ∀ x, foldedSetIterable iter X.env x = pure x := by intro _; rfl) :
    PS X (.Assign [.Name y py] (.DictComp kx vx [⟨tg, iter, ifs, 0⟩] scope pos) spos) (tAsg (tDc 𝔡 wi g tt tk tv (own.map (·.2))) (gName i)) := by
  intro pins s σ H D I h
  rw [exec_Assign_Name_used _ _ _ _ hsw]
  refine wpAny_bind (wpAny_standAt (wpAny_bind ?_))
  show wpAny _ X.A (do let _ ← comprehension (.DictComp kx vx [⟨tg, iter, ifs, 0⟩] scope pos) scope X.env (firstIterPos [⟨tg, iter, ifs, 0⟩] pos) newDict false (eval iter X.env) (some (assign (.Name y py) X.env))) _ _ s
  have h : tDc 𝔡 wi g tt tk tv (own.map (·.2)) σ H (fun x H1 => gName i x σ H1 D.nx) := h
  refine wpAny_bind (thn (dc_core (Qf := fun _ s' => SP X pins D .next s') hc hN I hi ok hg ht hk hv hu hs h fun L C s' m H' I' q hn f => ?_) fun _ s' hq => wpAny_pure (wpAny_pure hq))
  show wpAny _ _ (assign (.Name y py) X.env (.ref L)) _ _ _
  refine wpAny_assign_Name (store_ok2 (v := V.ref L) I' hN hy (.inl hyl) rfl (fun s2 I2 ⟨a, sb, ha⟩ => ?_) (.inr hyl))
  obtain ⟨f0, f1, f2, f3, f4, f5⟩ := f
  have haC : C ≠ a := by
    rcases ha with z | z
    · rw [z]; exact f1
    · exact fun e => f4 y a z e.symm
  refine ⟨m, hn.sameBut sb haC, fun h3 sb3 => ?_⟩
  exact ⟨_, H', I2.turned (t' := s2.toks) (fun b o hb e => (sb3.2 b hb).trans e) f0 f1 f3 f4 f5, q⟩
theorem sw_trueD {kx vx : Expr} {gs : List Comprehension} {scope : Scope} {pos py : Pos} {y : Str} {l : Nat} {env : Env} (hk : env.scope.kind = .function) (hy : env.scope.names.lookup y = some .local) (hl : (py.line == pos.line) = true)
    (ha : (scope.names.any fun (n, k) => n == y && (k == .local || k == .cell)) = false) : swapsWith (.DictComp kx vx gs scope pos) (some (.Name y py)) l env = pure true := by
  have ky : env.kindOf y = some .local := hy
  have hb : env.blockKind = .function := by unfold Env.blockKind; rw [hk]; rfl
  unfold swapsWith
  simp only [hb, ky, ha, Expr.pos, hl]
  rfl
end
end L2
set_option Elab.async false
set_option linter.all false
set_option maxRecDepth 100000
set_option maxHeartbeats 4000000
namespace L2
open PySem PySem.Spec PyProof.Rows
section
variable {κ : Type} [DecidableEq κ] {𝔡 : Dk κ} {X : Cx} {pins : List (Addr × Obj)} {σ : St} {H : Hp} {s : Shared} {a b : Addr} {kvs : List (κ × V)} {A : Around} {E : Value → Shared → Prop}
theorem rawLen {prog : Program} {w : World} {o : Obj} {es : Array DictEntry} {ep : Nat} {Q : Value → Shared → Prop} (hd : (a == sysModules) = false) (g : s.heap.get? a = some o) (c : o.ExactDict) (dt : o.data = .dict es ep) (hz : es.size ≤ sizeLine)
    (h : ∀ t tk, Q (.int es.size t) { s with toks := tk }) : wpAny (model prog w) A (call (.builtin "len") [.ref a]) Q E s := by
  have T : s.TypeIs (.ref a) "dict" := ⟨o, g, c.1⟩
  have hz' : es.size ≤ 16777216 := by rw [sizeLine_eq] at hz; omega
  refine PyProof.Rows.call_len_slot (n := es.size) T F.slot_dict_len (fun Q' q => ?_) (by omega) (by omega) (h _ _)
  refine wpAny_call_entry F.slot_dict_len T F.entry_dict_len ?_ (F.args_dict_len_1 _)
  show wpAny _ _ (dictSize a >>= _) _ _ s
  unfold dictSize
  refine wpAny_bind (wpAny_bind (wpAny_dictEntries g dt (wpAny_pure ?_)))
  show wpAny _ _ (Builtin.Dict.pendingCount a >>= _) _ _ s
  refine wpAny_bind (wpAny_pendingCount_other hd (wpAny_ret_mkInt ?_))
  rw [Nat.add_zero]
  exact q
theorem dd_len {Q : Value → Shared → Prop} (I : Inv X pins σ H s) (e : Rd H a (𝔡.ho kvs)) (h : ∀ t s', Inv X pins σ H s' → Q (.int kvs.length t) s') : wpAny (model X.prog X.w) A (call (.builtin "len") [.ref a]) Q E s := by
  obtain ⟨z, hd, xs, rel, o, es, ep, g, c, dt, he, _⟩ := dd_rd I.hok e
  have l1 : es.size = xs.length := size_of_entries he
  have l2 := Paired.length rel
  refine rawLen hd g c dt (by omega) fun t tk => ?_
  rw [l1, ← l2]
  exact h t _ (I.tok tk)
theorem srcD {prog : Program} {w : World} {es : Array DictEntry} {ep : Nat} (hd : (a == sysModules) = false) : PySem.W.KdlSrc prog w "dict" a a es.size (fun i v => ∃ en, es[i]? = some en ∧ v = en.key) (fun h => ∃ o, h.get? a = some o ∧ o.ExactDict ∧ o.data = .dict es ep) where
  type := fun _ ⟨o, g, c, _⟩ => ⟨o, g, c.1⟩
  there := fun _ ⟨o, g, _⟩ => ⟨Heap.lt_size g, Heap.lt_size g⟩
  keep := fun _ _ ⟨o, g, c⟩ k => ⟨o, k a (.inl rfl) o g, c⟩
  notList := by decide
  notTuple := by decide
  hint := fun _ _ _ _ ⟨o, g, c, _⟩ q => PySem.W.kdl_hint_dict ⟨o, g, c.1⟩ q
  iter := fun A s hh ⟨o, g, c, dt⟩ => by
    refine ⟨_, fun i h => h.IsKeyIter s.heap.objs.size a i es.size ep ∧ h.get? a = some o, fun E Q q => iter_keys hd g c dt q, ?_, ⟨_, Heap.get?_push_size _ rfl, rfl, rfl⟩, Heap.get?_push_of_some _ g⟩
    have ne : a ≠ s.heap.objs.size := Nat.ne_of_lt (Heap.lt_size g)
    refine ⟨by simp, fun i h h' st k => ⟨st.1.at fun oi e => k _ (by simp) oi e, k a (by simp) _ st.2⟩, fun i s1 Q E hi st hQ => ?_, fun s1 Q E st hQ => ?_, fun i s1 Q E st h => ?_⟩
    · refine next_key_item (en := es[i]) st.1 st.2 dt rfl (Array.getElem?_eq_getElem hi) fun h' it' sb => ?_
      exact hQ _ h' s1.toks ⟨_, Array.getElem?_eq_getElem hi, rfl⟩ ⟨it', (sb.2 a ne).trans st.2⟩ fun b ob hb e => (sb.2 b (fun z => hb (by simp [z]))).trans e
    · exact next_key_end hh st.1 st.2 dt rfl (Nat.le_refl _) fun h' eb => hQ h' s1.toks fun b ob hb e => eb b ob (fun z => hb (by simp [z])) e
    · refine wpAny_pyIter_slot st.1.typeIs F.slot_dict_keyiterator_iter (wpAny_call_entry F.slot_dict_keyiterator_iter st.1.typeIs F.entry_dict_keyiterator_iter ?_ (F.args_dict_keyiterator_iter_1 _))
      show wpAny _ _ (ret (Value.ref s.heap.objs.size)) _ _ s1
      exact wpAny_pure ⟨_, rfl, "dict_keyiterator", _, st.1.typeIs, F.slot_dict_keyiterator_next.lookup, h⟩
theorem Kd.keys {kvs : List (κ × V)} {xs : List (κ × Addr × Value)} (r : Kd 𝔡 H kvs xs) : Paired (fun (q : Addr) (kv : κ × V) => 𝔡.at' H q kv.1) (xs.map (·.2.1)) kvs := by
  induction r with
  | nil => exact .nil
  | cons h _ ih => exact .cons h.2.1 ih
theorem vals_refs : ∀ (qs : List Addr), Vals (qs.map V.ref) (qs.map Value.ref)
  | [] => .nil
  | _ :: qs => .cons rfl (vals_refs qs)
theorem dd_list {Q : Value → Shared → Prop} (hh : A.handled = none) (I : Inv X pins σ H s) (e : Rd H a (𝔡.ho kvs))
    (h : ∀ p qs s', H p = none → Paired (fun (q : Addr) (kv : κ × V) => 𝔡.at' H q kv.1) qs kvs → Inv X pins σ (upd H p (.lst (qs.map V.ref))) s' → Q (.ref p) s') : wpAny (model X.prog X.w) A (call (.type "list") [.ref a]) Q E s := by
  obtain ⟨z, hd, xs, rel, o, es, ep, g, c, dt, he, _⟩ := dd_rd I.hok e
  have l1 : es.size = xs.length := size_of_entries he
  have l2 := Paired.length rel
  refine PySem.W.kdl_call (srcD (es := es) (ep := ep) hd) hh ⟨o, g, c, dt⟩ (by omega) fun h' tk acc c' hk hS hacc => ?_
  refine h _ (xs.map (·.2.1)) _ (I.hok.fresh (Nat.le_refl _)) rel.keys (I.laid (t' := tk) hk (Nat.le_refl _) ⟨?_, (xs.map (·.2.1)).map Value.ref, c', vals_refs _, ?_⟩)
  · rw [List.length_map, List.length_map, ← l2]; exact z
  · rw [hS]
    have : acc = ((xs.map (·.2.1)).map Value.ref).toArray := by
      apply Array.ext_getElem?
      intro j
      obtain ⟨ha1, ha2⟩ := hacc
      by_cases hj : j < es.size
      · obtain ⟨v, hv⟩ : ∃ v, acc[j]? = some v := ⟨acc[j]'(by omega), Array.getElem?_eq_getElem _⟩
        obtain ⟨en, h1, h2⟩ := ha2 j v hv
        rw [hv, h2]
        rw [entry_at he j] at h1
        obtain ⟨x, hx, ex⟩ := Option.map_eq_some_iff.mp h1
        simp [hx, ← ex, entryOfKey]
      · rw [Array.getElem?_eq_none (by omega), List.getElem?_toArray, List.getElem?_eq_none (by simp; omega)]
    rw [this]
end
end L2
set_option Elab.async false
set_option linter.all false
set_option maxRecDepth 100000
set_option maxHeartbeats 4000000
namespace L2
open PySem PySem.Spec PyProof.Rows
section
variable {prog : Program} {w : World} {A : Around} {R : Result → Shared → Prop}
abbrev BestAt (h : Heap) (S : Addr) (xs : Array Value) : Prop := ∃ c, h.get? S = some { cls := .type "list", dict := none, data := .seq xs c, slots := #[] }
theorem minLoop {s0 : Shared} {I l S : Addr} {its : Array Value} {bt : Nat → Nat → Bool} (hh : A.handled = none) (hIl : I ≠ l) (hSI : S ≠ I) (hSl : S ≠ l)
    (cmp : ∀ (s : Shared) (i j : Nat) (u v : Value) (E : Value → Shared → Prop) (Q : Value → Shared → Prop), (∀ b o, b ≠ I → b ≠ S → s0.heap.get? b = some o → s.heap.get? b = some o) → its[i]? = some u → its[j]? = some v → Q (.bool (bt i j)) s →
      wpAny (model prog w) A.in1 (richCompare .Lt u v) Q E s)
    (fin : ∀ v h' tk, its[argBest bt (its.size - 1)]? = some v → (∀ b o, b ≠ I → b ≠ S → s0.heap.get? b = some o → h'.get? b = some o) → R (.ok (.ret v)) { s0 with heap := h', toks := tk }) :
    ∀ (k j : Nat) (h : Heap) (tk : Nat) (best : Value), its.size - (j + 1) = k → j + 1 ≤ its.size → h.IsListIter I l (j + 1) → h.IsList l its → its[argBest bt j]? = some best → BestAt h S #[best, best] →
      (∀ b o, b ≠ I → b ≠ S → s0.heap.get? b = some o → h.get? b = some o) → codeAny (model prog w) A (.builtin "min.loop" ⟨[.ref I, .none, .ref S], []⟩) R { s0 with heap := h, toks := tk } := by
  have nm : (toString "min" ++ toString ".loop" : String) = "min.loop" := by decide
  have W := Walks.list (prog := prog) (w := w) (A := A.in1) hh I l hIl.symm its
  intro k
  induction k with
  | zero =>
    intro j h tk best ek ej hi hl eb ⟨c, hS⟩ hk
    refine codeAny_builtin F.entry_min_loop ?_
    rw [Around.under_plainId F.plain_min_loop _]
    show wpAny _ A.in1 (seqItems? (.ref S) >>= _) _ _ { s0 with heap := h, toks := tk }
    refine wpAny_bind (wpAny_seqItems (s := { s0 with heap := h, toks := tk }) hS rfl ?_)
    show wpAny _ A.in1 (tryCatch (pyNext (.ref I)) _ >>= _) _ _ _
    have e : j + 1 = its.size := by omega
    refine wpAny_bind (wpAny_tryCatch (W.done { s0 with heap := h, toks := tk } _ _ ⟨e ▸ hi, hl⟩ fun h' tk' hk' => ?_))
    have hS' := hk' S _ (by simpa using hSI) hS
    show wpAny _ A.in1 (updateSeq S (fun _ => #[]) >>= _) _ _ _
    refine wpAny_bind (wpAny_updateSeq (s := { s0 with heap := h', toks := tk' }) hS' rfl (wpAny_bind (wpAny_letGo (wpAny_pure ?_))))
    refine fin best _ tk' (by rw [← e]; exact eb) fun b o n1 n2 q => (Heap.get?_update_other _ _ (Ne.symm n2)).trans (hk' b o (by simpa using n1) (hk b o n1 n2 q))
  | succ k ih =>
    intro j h tk best ek ej hi hl eb ⟨c, hS⟩ hk
    refine codeAny_builtin F.entry_min_loop ?_
    rw [Around.under_plainId F.plain_min_loop _]
    show wpAny _ A.in1 (seqItems? (.ref S) >>= _) _ _ { s0 with heap := h, toks := tk }
    refine wpAny_bind (wpAny_seqItems (s := { s0 with heap := h, toks := tk }) hS rfl ?_)
    show wpAny _ A.in1 (tryCatch (pyNext (.ref I)) _ >>= _) _ _ _
    refine wpAny_bind (wpAny_tryCatch (W.item (j + 1) { s0 with heap := h, toks := tk } _ _ (by omega) ⟨hi, hl⟩ fun v h' tk' hP hst' hk' => ?_))
    have hS' := hk' S _ (by simpa using hSI) hS
    have hk2 : ∀ b o, b ≠ I → b ≠ S → s0.heap.get? b = some o → h'.get? b = some o := fun b o n1 n2 q => hk' b o (by simpa using n1) (hk b o n1 n2 q)
    show wpAny _ A.in1 (tryCatch (holding [v, v] (richCompare .Lt v best >>= _)) _ >>= _) _ _ _
    refine wpAny_bind (wpAny_tryCatch (wpAny_holding (wpAny_bind (cmp { s0 with heap := h', toks := tk' } (j + 1) (argBest bt j) v best _ _ hk2 hP eb ?_))))
    refine wpAny_bind (wpAny_holding (wpAny_truthy_bool (wpAny_bind (wpAny_letGo (wpAny_pure ?_)))))
    cases hb : bt (j + 1) (argBest bt j) with
    | true =>
      rw [if_pos rfl]
      refine wpAny_bind (wpAny_updateSeq (s := { s0 with heap := h', toks := tk' }) hS' rfl (wpAny_bind (wpAny_letGo ?_)))
      rw [nm]
      have oth : ∀ b o, b ≠ S → h'.get? b = some o → (h'.update S (Obj.mapSeq fun _ => #[v, v])).get? b = some o := fun b o n q => (Heap.get?_update_other _ _ (Ne.symm n)).trans q
      refine wpAny_pure ⟨plainId_quiet F.plain_min_loop _, ih (j + 1) _ tk' v (by omega) (by omega) (hst'.1.at fun o q => oth _ o hSI.symm q) (hst'.2.at fun o q => oth _ o hSl.symm q) (by simp only [argBest, hb, if_true]; exact hP) ⟨_, Heap.get?_update_self _ hS' rfl⟩ fun b o n1 n2 q => oth b o n2 (hk2 b o n1 n2 q)⟩
    | false =>
      rw [if_neg Bool.false_ne_true]
      refine wpAny_bind (wpAny_letGo ?_)
      rw [nm]
      exact wpAny_pure ⟨plainId_quiet F.plain_min_loop _, ih (j + 1) h' tk' best (by omega) (by omega) hst'.1 hst'.2 (by simp only [argBest, hb, Bool.false_eq_true, if_false]; exact eb) ⟨c, hS'⟩ hk2⟩
theorem minList {E : Value → Shared → Prop} {s : Shared} {l : Addr} {its : Array Value} {bt : Nat → Nat → Bool} {Q : Value → Shared → Prop} (hh : A.handled = none) (hl : s.heap.IsList l its) (hn : 0 < its.size)
    (cmp : ∀ (s' : Shared) (i j : Nat) (u v : Value) (E : Value → Shared → Prop) (Q : Value → Shared → Prop), (∀ b o, s.heap.get? b = some o → s'.heap.get? b = some o) → its[i]? = some u → its[j]? = some v → Q (.bool (bt i j)) s' →
      wpAny (model prog w) A.in1 (richCompare .Lt u v) Q E s')
    (fin : ∀ v h' tk, its[argBest bt (its.size - 1)]? = some v → (∀ b o, s.heap.get? b = some o → h'.get? b = some o) → Q v { s with heap := h', toks := tk }) : wpAny (model prog w) A (call (.builtin "min") [.ref l]) Q E s := by
  have nm : (toString "min" ++ toString ".loop" : String) = "min.loop" := by decide
  have hlt : l < s.heap.objs.size := by obtain ⟨_, g, _⟩ := hl; exact Heap.lt_size g
  refine call_function_tree F.kind_min F.plain_min F.entry_min (F.args_min1 _) ?_
  show wpAny _ A.in1 (Builtin.Builtins.bindParams "min" ["key", "default"] 0 ⟨[], []⟩ >>= _) _ _ s
  refine wpAny_bind (wpAny_of_eq (show Builtin.Builtins.bindParams "min" ["key", "default"] 0 ⟨[], []⟩ = pure [none, none] from rfl) (wpAny_bind (wpAny_pure (wpAny_bind (wpAny_pyIter_list hl ?_)))))
  generalize hs1 : s.heap.push { cls := .type "list_iterator", data := .fields #[.ref l, .int 0 0] } = h1
  have k1 : ∀ b o, s.heap.get? b = some o → h1.get? b = some o := fun b o q => by rw [← hs1]; exact Heap.get?_push_of_some _ q
  have z1 : h1.objs.size = s.heap.objs.size + 1 := by rw [← hs1]; exact Heap.size_push ..
  have i1 : h1.IsListIter s.heap.objs.size l 0 := by rw [← hs1]; exact ⟨_, Heap.get?_push_size _ rfl, rfl, rfl⟩
  refine wpAny_bind (wpAny_newObj_type ?_)
  rw [nm]
  refine wpAny_pure ⟨plainId_quiet F.plain_min_loop _, ?_⟩
  show codeAny _ _ (.builtin "min.loop" ⟨[.ref s.heap.objs.size, .none, .ref h1.objs.size], []⟩) _ { s with heap := h1.push _ }
  generalize hs2 : h1.push { cls := .type "list", data := .seq (List.toArray []) } = h2
  have k2 : ∀ b o, h1.get? b = some o → h2.get? b = some o := fun b o q => by rw [← hs2]; exact Heap.get?_push_of_some _ q
  have b2 : BestAt h2 h1.objs.size #[] := by rw [← hs2]; exact ⟨_, Heap.get?_push_size _ rfl⟩
  have i2 : h2.IsListIter s.heap.objs.size l 0 := i1.at fun o q => k2 _ o q
  have l2 : h2.IsList l its := hl.at fun o q => k2 _ o (k1 _ o q)
  have hIl : s.heap.objs.size ≠ l := Nat.ne_of_gt hlt
  have hSI : h1.objs.size ≠ s.heap.objs.size := by omega
  have hSl : h1.objs.size ≠ l := by rw [z1]; exact Nat.ne_of_gt (Nat.lt_succ_of_lt hlt)
  obtain ⟨c, hS⟩ := b2
  refine codeAny_builtin F.entry_min_loop ?_
  rw [Around.under_plainId F.plain_min_loop _]
  show wpAny _ A.in1 (seqItems? (.ref h1.objs.size) >>= _) _ _ { s with heap := h2 }
  refine wpAny_bind (wpAny_seqItems (s := { s with heap := h2 }) hS rfl ?_)
  show wpAny _ A.in1 (tryCatch (pyNext (.ref s.heap.objs.size)) _ >>= _) _ _ _
  refine wpAny_bind (wpAny_tryCatch ((Walks.list (prog := prog) (w := w) (A := A.in1) hh s.heap.objs.size l hIl.symm its).item 0 { s with heap := h2 } _ _ hn ⟨i2, l2⟩ fun v h' tk hP hst' hk' => ?_))
  have hS' := hk' h1.objs.size _ (by simpa using hSI) hS
  show wpAny _ A.in1 (updateSeq h1.objs.size (fun _ => #[v, v]) >>= _) _ _ _
  refine wpAny_bind (wpAny_updateSeq (s := { s with heap := h', toks := tk }) hS' rfl ?_)
  rw [nm]
  have oth : ∀ b o, b ≠ h1.objs.size → h'.get? b = some o → (h'.update h1.objs.size (Obj.mapSeq fun _ => #[v, v])).get? b = some o := fun b o n q => (Heap.get?_update_other _ _ (Ne.symm n)).trans q
  refine wpAny_pure ⟨plainId_quiet F.plain_min_loop _, minLoop (s0 := s) (bt := bt) hh hIl hSI hSl (fun s' i j u v E Q k => cmp s' i j u v E Q fun b o q => k b o (Nat.ne_of_lt (Heap.lt_size q)) (Nat.ne_of_lt (by rw [z1]; exact Nat.lt_succ_of_lt (Heap.lt_size q))) q)
    (fun v h' tk e k => fin v h' tk e fun b o q => k b o (Nat.ne_of_lt (Heap.lt_size q)) (Nat.ne_of_lt (by rw [z1]; exact Nat.lt_succ_of_lt (Heap.lt_size q))) q)
    (its.size - 1) 0 _ tk v rfl hn (hst'.1.at fun o q => oth _ o hSI.symm q) (hst'.2.at fun o q => oth _ o hSl.symm q) hP ⟨_, Heap.get?_update_self _ hS' rfl⟩ fun b o n1 n2 q => oth b o n2 (hk' b o (by simpa using n1) (k2 b o (k1 b o q)))⟩
end
theorem argBest_min {bt : Nat → Nat → Bool} (ir : ∀ i, bt i i = false) (tr : ∀ i j k, bt i j = true → bt k j = false → bt k i = false → True) (neg : ∀ i j k, bt i j = false → bt j k = false → bt i k = false) (asym : ∀ i j, bt i j = true → bt j i = false) : ∀ k j, j ≤ k → bt j (argBest bt k) = false
  | 0, j, h => by
    have : j = 0 := by omega
    subst this
    exact ir 0
  | k + 1, j, h => by
    unfold argBest
    by_cases e : bt (k + 1) (argBest bt k) = true
    · rw [if_pos e]
      by_cases ej : j = k + 1
      · subst ej; exact ir _
      · exact neg j (argBest bt k) (k + 1) (argBest_min ir tr neg asym k j (by omega)) (asym _ _ e)
    · rw [if_neg e]
      have e : bt (k + 1) (argBest bt k) = false := by simpa using e
      by_cases ej : j = k + 1
      · subst ej; exact e
      · exact argBest_min ir tr neg asym k j (by omega)
theorem lex_ir : ∀ (x : List Int), HT.lexLt x x = false
  | [] => rfl
  | x :: xs => by rw [HT.lexLt_cons, if_pos rfl]; exact lex_ir xs
theorem lex_asym : ∀ (x y : List Int), HT.lexLt x y = true → HT.lexLt y x = false
  | [], [], h => by cases h
  | [], _ :: _, _ => rfl
  | _ :: _, [], h => by cases h
  | x :: xs, y :: ys, h => by
    rw [HT.lexLt_cons] at h ⊢
    by_cases e : x = y
    · rw [if_pos e] at h; rw [if_pos e.symm]; exact lex_asym xs ys h
    · rw [if_neg e] at h; rw [if_neg (Ne.symm e)]
      simp only [decide_eq_true_eq, decide_eq_false_iff_not] at h ⊢
      omega
theorem lex_neg : ∀ (x y z : List Int), HT.lexLt x y = false → HT.lexLt y z = false → HT.lexLt x z = false
  | [], [], z, _, h => h
  | [], _ :: _, _, h, _ => by cases h
  | _ :: _, [], [], _, _ => rfl
  | _ :: _, _, [], _, _ => rfl
  | x :: xs, [], z :: zs, _, h => by cases h
  | x :: xs, y :: ys, z :: zs, h1, h2 => by
    rw [HT.lexLt_cons] at h1 h2 ⊢
    by_cases e1 : x = y
    · rw [if_pos e1] at h1
      by_cases e2 : y = z
      · rw [if_pos e2] at h2; rw [if_pos (e1.trans e2)]; exact lex_neg xs ys zs h1 h2
      · rw [if_neg e2] at h2; rw [if_neg (by rw [e1]; exact e2), e1]; exact h2
    · rw [if_neg e1] at h1
      by_cases e2 : y = z
      · rw [if_neg (by rw [← e2]; exact e1), ← e2]; exact h1
      · rw [if_neg e2] at h2
        simp only [decide_eq_false_iff_not] at h1 h2
        rw [if_neg (by omega)]
        simp only [decide_eq_false_iff_not]
        omega
def rMinT (K : PySem.W.Frag) : List V → Hp → VK → Prop := fun vs H Q => ∃ (a : Addr) (bs : List Addr) (nss : List (List Int)), vs = [V.ref a] ∧ SqL K H a (bs.map V.ref) ∧ Paired (fun b (ns : List Int) => SqT K H b (ns.map V.int)) bs nss ∧ 0 < bs.length ∧
  ∀ (i : Nat) b ns, bs[i]? = some b → nss[i]? = some ns → (∀ ms ∈ nss, HT.lexLt ms ns = false) → Q (.ref b) H
theorem pairedAt {α β : Type} {F : α → β → Prop} : ∀ {l : List α} {m : List β}, Paired F l m → ∀ {i : Nat} {a : α}, l[i]? = some a → ∃ b, m[i]? = some b ∧ F a b
  | _, _, .nil, i, a, h => by simp at h
  | _, _, .cons r t, 0, a, h => by simp at h; subst h; exact ⟨_, rfl, r⟩
  | _, _, .cons r t, i + 1, a, h => by simpa using pairedAt t (by simpa using h)
theorem vals_ref_at {bs : List Addr} {us : List Value} (r : Vals (bs.map V.ref) us) {i : Nat} {u : Value} (h : us[i]? = some u) : ∃ b, bs[i]? = some b ∧ u = .ref b := by
  induction bs generalizing us i with
  | nil => cases r; simp at h
  | cons b bs ih =>
    cases r with
    | cons r1 r2 =>
      cases i with
      | zero => simp at h; subst h; exact ⟨b, rfl, r1⟩
      | succ i => simpa using ih r2 (by simpa using h)
theorem cr_minT {X : Cx} (hc : X.calm = true) (hu : X.A.units + 1 < cLine) : CallR X (.builtin "min") (rMinT X.K) := by
  intro pins s σ H vs us Q I r h
  obtain ⟨a, bs, nss, rfl, hs, hp, hne, q⟩ := h
  obtain ⟨its, rv, hl, _⟩ := I.list hs
  rw [Vals.ref1 r]
  have len := rv.length
  have len2 := Paired.length hp
  rw [List.length_map] at len
  have hat : ∀ {i : Nat} {u : Value}, its.toArray[i]? = some u → ∃ b ns, bs[i]? = some b ∧ u = .ref b ∧ nss[i]? = some ns ∧ SqT X.K H b (ns.map V.int) := fun {i u} e => by
    obtain ⟨b, e1, e2⟩ := vals_ref_at rv (by simpa using e)
    obtain ⟨ns, e3, e4⟩ := pairedAt hp e1
    exact ⟨b, ns, e1, e2, e3, e4⟩
  refine minList (bt := fun i j => HT.lexLt (nss.getD i []) (nss.getD j [])) (I.ok.hd hc) hl.isList (by simp; omega) (fun s' i j u v E' Q' k e1 e2 hq => ?_) fun v h' tk e k => ?_
  · obtain ⟨b, ns, _, rfl, n1, t1⟩ := hat e1
    obtain ⟨b', ms, _, rfl, n2, t2⟩ := hat e2
    obtain ⟨i1, r1, p1, _⟩ := I.tuple t1
    obtain ⟨i2, r2, p2, _⟩ := I.tuple t2
    obtain ⟨o1, g1, c1⟩ := p1
    obtain ⟨o2, g2, c2⟩ := p2
    have z := HT.lt_tupInts (prog := X.prog) (w := X.w) (A := X.A.in1) (E := E') (s := s') (Q := Q') (l := b) (b := b') ⟨o1, k _ _ g1, c1⟩ ⟨o2, k _ _ g2, c2⟩ (intsAre_of r1) (intsAre_of r2) (by rw [Around.in1_units]; exact hu) (by simpa [List.getD, n1, n2] using hq)
    exact z
  · obtain ⟨b, ns, e1, rfl, n1, _⟩ := hat e
    refine ⟨.ref b, H, I.kept (t' := tk) k, rfl, q _ b ns e1 n1 fun ms hm => ?_⟩
    obtain ⟨j, hj, rfl⟩ := List.getElem_of_mem hm
    have z : HT.lexLt (nss.getD j []) (nss.getD (argBest (fun i j => HT.lexLt (nss.getD i []) (nss.getD j [])) (its.toArray.size - 1)) []) = false := argBest_min (bt := fun i j => HT.lexLt (nss.getD i []) (nss.getD j [])) (fun i => lex_ir _) (fun _ _ _ _ _ _ => trivial) (fun i j k => lex_neg _ _ _) (fun i j => lex_asym _ _) (its.toArray.size - 1) j (by simp; omega)
    rw [List.getD_eq_getElem?_getD, List.getD_eq_getElem?_getD, n1, List.getElem?_eq_getElem hj] at z
    exact z
end L2
set_option Elab.async false
set_option linter.all false
set_option maxRecDepth 100000
set_option maxHeartbeats 4000000
namespace L2
open PySem PySem.Spec PyProof.Rows
section
variable {prog : Program} {w : World} {A : Around} {E : Value → Shared → Prop} {s : Shared}
abbrev ZipB (h : Heap) (z TI TO T : Addr) (f : Bool) : Prop := h.get? z = some { cls := .type "zip", dict := none, data := .fields #[rawInt T, .bool f, .bool false, .ref TI, .ref TO], slots := #[] }
theorem notFree {z TI TO T : Addr} {f : Bool} {o : Obj} {Q : Bool → Shared → Prop} (hz : ZipB s.heap z TI TO T f) (hT : s.heap.get? T = some o) (h : ∀ h', ZipB h' z TI TO T true → Heap.SameBut z s.heap h' → Q false { s with heap := h' }) :
    wpAny (model prog w) A (Builtin.SmallTypes.ownedTupleIsFree (.ref z)) Q E s := by
  unfold Builtin.SmallTypes.ownedTupleIsFree
  refine wpAny_bind (wpAny_field hz rfl (x := rawInt T) rfl ?_)
  show wpAny _ _ (loadIfAlive ((T : Int).toNat) >>= _) _ _ _
  refine wpAny_bind (PySem.W.kdx_alive (by simpa using hT) ?_)
  show wpAny _ _ (field (.ref z) 1 >>= _) _ _ _
  refine wpAny_bind (wpAny_field hz rfl (x := .bool f) rfl ?_)
  cases f with
  | true => exact wpAny_pure (h s.heap hz (Heap.SameBut.refl _ _))
  | false =>
    show wpAny _ _ (setField (.ref z) 1 (.bool true) >>= _) _ _ _
    exact wpAny_bind (wpAny_setField_rec hz (by simp) fun h' hz' sb => wpAny_pure (h h' hz' sb))
theorem zipB_item {z TI TO T i1 i2 l1 l2 : Addr} {f : Bool} {k : Nat} {oT : Obj} {xs ys : Array Value} {x y : Value} {Q : Option Value → Shared → Prop} (D : ZipApart z TI TO i1 i2 l1 l2) (hz : ZipB s.heap z TI TO T f) (hT : s.heap.get? T = some oT) (hTI : IsPair s.heap TI (.ref i1) (.ref i2))
    (h1 : s.heap.IsListIter i1 l1 k) (h2 : s.heap.IsListIter i2 l2 k) (hl1 : s.heap.IsList l1 xs) (hl2 : s.heap.IsList l2 ys) (hx : xs[k]? = some x) (hy : ys[k]? = some y)
    (hQ : ∀ h', ZipB h' z TI TO T true → h'.IsListIter i1 l1 (k + 1) → h'.IsListIter i2 l2 (k + 1) → IsPair h' s.heap.objs.size x y → (∀ c o, c ≠ z → c ≠ i1 → c ≠ i2 → s.heap.get? c = some o → h'.get? c = some o) → Q (some (.ref s.heap.objs.size)) { s with heap := h' }) :
    wpAny (model prog w) A (pyNext (.ref z)) Q E s := by
  have ty : s.TypeIs (.ref z) "zip" := ⟨_, hz, rfl⟩
  unfold pyNext
  refine wpAny_bind (wpAny_attempt (wpAny_callSpecial?_slot (name := Str.ofString "__next__") ty F.slot_zip_next (wpAny_call_entry F.slot_zip_next ty F.entry_zip_next ?_ (F.args_zip_next_1 _))))
  show wpAny _ _ (field (.ref z) 2 >>= _) _ _ s
  refine wpAny_bind (wpAny_field hz rfl (x := .bool false) rfl ?_)
  show wpAny _ _ (field (.ref z) 3 >>= _) _ _ s
  refine wpAny_bind (wpAny_field hz rfl (x := .ref TI) rfl (wpAny_bind (wpAny_seqItems hTI rfl ?_)))
  show wpAny _ _ (Builtin.SmallTypes.ownedTupleIsFree (.ref z) >>= _) _ _ s
  refine wpAny_bind (notFree hz hT fun g1 z1 sb1 => ?_)
  show wpAny _ _ (forIn (#[Value.ref i1, Value.ref i2] : Array Value) _ _ >>= _) _ _ _
  rw [← Array.forIn_toList]
  refine wpAny_bind ?_
  simp only [List.forIn_cons, List.forIn_nil]
  refine wpAny_bind (wpAny_bind (wpAny_holding ?_))
  show wpAny _ _ (Builtin.SmallTypes.nextOf (.ref i1) >>= _) _ _ _
  refine wpAny_bind (wpAny_nextOf_list_item (s := { s with heap := g1 }) (h1.extBut sb1.extBut D.i1z) (hl1.extBut sb1.extBut D.l1z) hx fun g2 it2 sb2 => wpAny_pure (wpAny_pure ?_))
  refine wpAny_bind (wpAny_bind (wpAny_holding ?_))
  show wpAny _ _ (Builtin.SmallTypes.nextOf (.ref i2) >>= _) _ _ _
  refine wpAny_bind (wpAny_nextOf_list_item (s := { s with heap := g2 }) ((h2.extBut sb1.extBut D.i2z).extBut sb2.extBut D.i12.symm) ((hl2.extBut sb1.extBut D.l2z).extBut sb2.extBut D.l2i1) hy fun g3 it3 sb3 => wpAny_pure (wpAny_pure (wpAny_pure ?_)))
  refine wpAny_bind (wpAny_newTuple ?_ (by show 2 ≤ sizeLine; decide))
  have hsz : g3.objs.size = s.heap.objs.size := by rw [sb3.1, sb2.1, sb1.1]
  refine wpAny_pure ⟨_, rfl, wpAny_pure ?_⟩
  have up : ∀ c o, c ≠ z → c ≠ i1 → c ≠ i2 → s.heap.get? c = some o → (g3.push { cls := .type "tuple", data := .seq #[x, y] }).get? c = some o := fun c o n1 n2 n3 q => Heap.get?_push_of_some _ (sb3.extBut _ _ n3 (sb2.extBut _ _ n2 (sb1.extBut _ _ n1 q)))
  show Q (some (.ref g3.objs.size)) { s with heap := g3.push { cls := .type "tuple", data := .seq #[x, y] } }
  have e := hQ (g3.push { cls := .type "tuple", data := .seq #[x, y] }) (Heap.get?_push_of_some _ (sb3.extBut _ _ D.i2z.symm (sb2.extBut _ _ D.i1z.symm z1)))
    ((it2.extBut sb3.extBut D.i12).at fun o q => Heap.get?_push_of_some _ q) (it3.at fun o q => Heap.get?_push_of_some _ q) (by rw [← hsz]; exact Heap.get?_push_size _ rfl) up
  rw [hsz]
  exact e
theorem zipB_end {z TI TO T i1 i2 l1 l2 : Addr} {f : Bool} {k : Nat} {oT : Obj} {xs : Array Value} {Q : Option Value → Shared → Prop} (hh : A.handled = none) (D : ZipApart z TI TO i1 i2 l1 l2) (hz : ZipB s.heap z TI TO T f) (hT : s.heap.get? T = some oT) (hTI : IsPair s.heap TI (.ref i1) (.ref i2))
    (h1 : s.heap.IsListIter i1 l1 k) (hl1 : s.heap.IsList l1 xs) (hx : xs[k]? = none)
    (hQ : ∀ h', (∀ c o, c ≠ z → c ≠ i1 → s.heap.get? c = some o → h'.get? c = some o) → Q none { s with heap := h' }) :
    wpAny (model prog w) A (pyNext (.ref z)) Q E s := by
  have ty : s.TypeIs (.ref z) "zip" := ⟨_, hz, rfl⟩
  unfold pyNext
  refine wpAny_bind (wpAny_attempt (wpAny_callSpecial?_slot (name := Str.ofString "__next__") ty F.slot_zip_next (wpAny_call_entry F.slot_zip_next ty F.entry_zip_next ?_ (F.args_zip_next_1 _))))
  show wpAny _ _ (field (.ref z) 2 >>= _) _ _ s
  refine wpAny_bind (wpAny_field hz rfl (x := .bool false) rfl ?_)
  show wpAny _ _ (field (.ref z) 3 >>= _) _ _ s
  refine wpAny_bind (wpAny_field hz rfl (x := .ref TI) rfl (wpAny_bind (wpAny_seqItems hTI rfl ?_)))
  show wpAny _ _ (Builtin.SmallTypes.ownedTupleIsFree (.ref z) >>= _) _ _ s
  refine wpAny_bind (notFree hz hT fun g1 z1 sb1 => ?_)
  show wpAny _ _ (forIn (#[Value.ref i1, Value.ref i2] : Array Value) _ _ >>= _) _ _ _
  rw [← Array.forIn_toList]
  refine wpAny_bind ?_
  simp only [List.forIn_cons, List.forIn_nil]
  refine wpAny_bind (wpAny_bind (wpAny_holding ?_))
  show wpAny _ _ (Builtin.SmallTypes.nextOf (.ref i1) >>= _) _ _ _
  refine wpAny_bind (wpAny_nextOf_list_end (s := { s with heap := g1 }) hh (h1.extBut sb1.extBut D.i1z) (hl1.extBut sb1.extBut D.l1z) hx fun g2 e k2 ⟨o, ho, hc⟩ => ?_)
  refine wpAny_bind (wpAny_isInstance (T := "StopIteration") (b := true) ⟨o, ho, hc⟩ isSubtype_stop ?_)
  exact wpAny_pure (hQ g2 fun c o n1 n2 q => k2 _ _ n2 (sb1.extBut _ _ n1 q))
theorem zip_nolen : typeLookup (.type "zip") "__len__" = pure none := by rw [typeLookup_type, builtinLookup_eq_fast]; kernel_rfl
theorem zip_nohint : typeLookup (.type "zip") "__length_hint__" = pure none := by rw [typeLookup_type, builtinLookup_eq_fast]; kernel_rfl
theorem extLoop {R : Result → Shared → Prop} {S I : Addr} {res : Value} {n : Nat} (W : Nat → Shared → Array Value → Prop)
    (item : ∀ i s acc, i < n → W i s acc → wpAny (model prog w) A.in1 (pyNext (.ref I)) (fun r s' => ∃ v c, r = some v ∧ acc.size < sizeLine ∧ s'.heap.get? S = some { cls := .type "list", dict := none, data := .seq acc c, slots := #[] } ∧
      ∀ h' c', h'.get? S = some { cls := .type "list", dict := none, data := .seq (acc.push v) c', slots := #[] } → Heap.SameBut S s'.heap h' → W (i + 1) { s' with heap := h' } (acc.push v)) (fun e s' => R (.error e) s') s)
    (done : ∀ s acc, W n s acc → wpAny (model prog w) A.in1 (pyNext (.ref I)) (fun r s' => r = none ∧ R (.ok (.ret res)) s') (fun e s' => R (.error e) s') s) :
    ∀ (k i : Nat) (s : Shared) (acc : Array Value), n - i = k → i ≤ n → W i s acc → codeAny (model prog w) A (.builtin "list.extend.loop" ⟨[.ref S, .ref I, res], []⟩) R s := by
  intro k
  induction k with
  | zero =>
    intro i s acc ek ei hW
    have e : i = n := by omega
    subst e
    refine codeAny_builtin F.entry_extend_loop ?_
    rw [Around.under_plainId F.plain_extend_loop _]
    refine wpAny_bind (wpAny_mono (done s acc hW) (fun r s' hr => ?_) fun _ _ q => q)
    obtain ⟨rfl, hR⟩ := hr
    exact wpAny_pure hR
  | succ k ih =>
    intro i s acc ek ei hW
    refine codeAny_builtin F.entry_extend_loop ?_
    rw [Around.under_plainId F.plain_extend_loop _]
    refine wpAny_bind (wpAny_mono (item i s acc (by omega) hW) (fun r s' hr => ?_) fun _ _ q => q)
    obtain ⟨v, c, rfl, hsz, hS, hW'⟩ := hr
    show wpAny _ A.in1 (updateSeq S (·.push v) >>= _) _ _ s'
    refine wpAny_bind (wpAny_updateSeq hS rfl (wpAny_pure ⟨plainId_quiet F.plain_extend_loop _, ih (i + 1) _ (acc.push v) (by omega) (by omega) (hW' _ _ (Heap.get?_update_self _ hS rfl) (Heap.SameBut.update ..))⟩) (by omega) (by show (acc.push v).size ≤ sizeLine + 1; rw [Array.size_push]; omega))
theorem listZipHead {Q : Value → Shared → Prop} {z TI TO : Addr} (hz : IsZip s.heap z TI TO .none)
    (h : ∀ (h' : Heap) (tk : Nat) (c : Nat), h'.get? s.heap.objs.size = some { cls := .type "list", dict := none, data := .seq #[] c, slots := #[] } → (∀ b o, s.heap.get? b = some o → h'.get? b = some o) → h'.objs.size = s.heap.objs.size + 1 →
      codeAny (model prog w) A.in1 (.builtin "list.extend.loop" ⟨[.ref s.heap.objs.size, .ref z, .none], []⟩) (wants (fun r s₂ => r = .none ∧ Q (.ref s.heap.objs.size) s₂) E) { s with heap := h', toks := tk }) :
    wpAny (model prog w) A (call (.type "list") [.ref z]) Q E s := by
  refine callType_codes (Q₁ := fun obj s₁ => obj = .ref s.heap.objs.size ∧ s₁ = { s with heap := s.heap.push { cls := .type "list", data := .seq #[] } }) F.called_list (F.typeCall_list_1 _) F.entry_list_init (code_list_new _ ⟨rfl, rfl⟩) fun obj s₁ h₁ => ?_
  obtain ⟨rfl, rfl⟩ := h₁
  have hS : (s.heap.push { cls := .type "list", data := .seq #[] }).get? s.heap.objs.size = some { cls := .type "list", data := .seq #[] } := Heap.get?_push_size _ rfl
  have hzS : s.heap.objs.size ≠ z := Nat.ne_of_gt (Heap.lt_size hz)
  refine ⟨⟨_, hS, rfl⟩, F.args_list_init_2 _ _, ?_⟩
  show wpAny _ A.in1.in1 (do let old ← Builtin.List.listItems (.ref s.heap.objs.size); Builtin.List.listUpdate (.ref s.heap.objs.size) (fun _ => #[]); letGo old.toList.reverse; Builtin.List.listExtendWith (.ref s.heap.objs.size) (.ref z) .none) _ _ _
  refine wpAny_bind ?_
  unfold Builtin.List.listItems
  refine wpAny_bind (wpAny_seqItems hS rfl (wpAny_pure ?_))
  show wpAny _ _ (updateSeq s.heap.objs.size (fun _ => #[]) >>= fun _ => letGo (#[] : Array Value).toList.reverse >>= fun _ => Builtin.List.listExtendWith (.ref s.heap.objs.size) (.ref z) .none) _ _ _
  refine wpAny_bind (wpAny_updateSeq hS rfl (wpAny_bind (wpAny_letGo ?_)))
  have g1 := Heap.get?_update_self (Obj.mapSeq (fun _ => (#[] : Array Value))) hS rfl
  have k1 : ∀ b o, s.heap.get? b = some o → ((s.heap.push { cls := .type "list", data := .seq #[] }).update s.heap.objs.size (Obj.mapSeq fun _ => #[])).get? b = some o := fun b o q => (Heap.get?_update_other _ _ (Nat.ne_of_gt (Heap.lt_size q))).trans (Heap.get?_push_of_some _ q)
  generalize hh1 : (s.heap.push { cls := .type "list", data := .seq #[] }).update s.heap.objs.size (Obj.mapSeq fun _ => #[]) = h1 at g1 k1
  have z1 : IsZip h1 z TI TO .none := k1 _ _ hz
  have sz1 : h1.objs.size = s.heap.objs.size + 1 := by rw [← hh1, (Heap.SameBut.update ..).1, Heap.size_push]
  have ty : ({ s with heap := h1 } : Shared).TypeIs (.ref z) "zip" := ⟨_, z1, rfl⟩
  unfold Builtin.List.listExtendWith
  refine wpAny_bind (wpAny_typeOf ty ?_)
  have e1 : Builtin.List.listSameRef (.ref s.heap.objs.size) (.ref z) = false := by simp [Builtin.List.listSameRef, hzS]
  rw [if_neg (show ¬ ((Builtin.List.listSameRef (.ref s.heap.objs.size) (.ref z) || Value.type "zip" == Value.type "list" || Value.type "zip" == Value.type "tuple") = true) by rw [e1]; decide)]
  refine wpAny_bind (wpAny_pyIter_zip z1 (wpAny_bind (wpAny_holding ?_)))
  unfold Builtin.List.listLengthHint
  refine wpAny_bind (wpAny_specialOf ty zip_nolen ?_)
  show wpAny _ _ (specialOf (Value.ref z) (Str.ofString "__length_hint__") >>= _) _ _ _
  refine wpAny_bind (wpAny_specialOf ty zip_nohint (wpAny_pure ?_))
  show wpAny _ _ (rule "list.extend.makes-room" >>= fun _ => Builtin.List.listTouch (.ref s.heap.objs.size) >>= fun _ => again (.builtin "list.extend.loop" ⟨[.ref s.heap.objs.size, .ref z, .none], []⟩)) _ _ _
  refine wpAny_bind (wpAny_rule (wpAny_bind ?_))
  show wpAny _ _ (updateSeq s.heap.objs.size (·.push .none) >>= fun _ => updateSeq s.heap.objs.size (·.pop)) _ _ _
  refine wpAny_bind (wpAny_updateSeq g1 rfl ?_)
  have g2 := Heap.get?_update_self (Obj.mapSeq (·.push Value.none)) g1 rfl
  refine wpAny_updateSeq (hz := by seq_fits) g2 rfl ?_
  have g3 := Heap.get?_update_self (Obj.mapSeq (·.pop)) g2 rfl
  refine wpAny_pure ⟨plainId_quiet F.plain_extend_loop _, h _ _ _ g3 (fun b o q => ?_) ?_⟩
  · have n := Nat.ne_of_gt (Heap.lt_size q)
    exact (Heap.get?_update_other _ _ n).trans ((Heap.get?_update_other _ _ n).trans (k1 b o q))
  · rw [(Heap.SameBut.update ..).1, (Heap.SameBut.update ..).1, sz1]
end
end L2
set_option Elab.async false
set_option linter.all false
set_option maxRecDepth 100000
set_option maxHeartbeats 4000000
namespace L2
open PySem PySem.Spec PyProof.Rows
def rZipL (K : PySem.W.Frag) : R2 := fun x y H Q => ∃ a b xs ys, x = .ref a ∧ y = .ref b ∧ SqL K H a xs ∧ SqL K H b ys ∧ xs.length = ys.length ∧ 0 < xs.length ∧
  ∀ p ts H', H p = none → (∀ q o, H q = some o → H' q = some o) → H' p = some (.lst (ts.map V.ref)) → Paired (fun t (q : V × V) => H' t = some (.tup [q.1, q.2]) ∧ H t = none) ts (xs.zip ys) → Q (.ref p) H'
theorem SqL.ext {K : PySem.W.Frag} {H H' : Hp} {a : Addr} {xs : List V} (h : SqL K H a xs) (e : ∀ q o, H q = some o → H' q = some o) : SqL K H' a xs := by
  rcases h with h | h
  · rcases h with h | ⟨o, h⟩
    · exact .inl (.inl (e _ _ h))
    · exact .inl (.inr ⟨o, e _ _ h⟩)
  · exact .inr h
theorem refs_unique : ∀ {ts : List Addr} {us : List Value}, Vals (ts.map V.ref) us → us = ts.map Value.ref
  | [], _, r => by cases r; rfl
  | t :: ts, _, r => by
    cases r with
    | cons r1 r2 => rw [refs_unique r2, show _ = Value.ref t from r1]; rfl
theorem take_zip {α β : Type} {xs : List α} {ys : List β} {i : Nat} {x : α} {y : β} (hx : xs[i]? = some x) (hy : ys[i]? = some y) : (xs.zip ys).take (i + 1) = (xs.zip ys).take i ++ [(x, y)] := by
  have hz : (xs.zip ys)[i]? = some (x, y) := by rw [List.getElem?_zip_eq_some]; exact ⟨hx, hy⟩
  rw [List.take_add_one, hz]
  rfl
section
variable {X : Cx} {pins : List (Addr × Obj)} {σ : St} {H : Hp} {s : Shared}
theorem zip_list {a b z TI TO i1 i2 : Addr} {xs ys : List V} {Q : VK} (hc : X.calm = true) (D : ZipApart z TI TO i1 i2 a b) (I : Inv X pins σ H s) (ha : SqL X.K H a xs) (hb : SqL X.K H b ys) (el : xs.length = ys.length) (pos : 0 < xs.length)
    (hz : IsZip s.heap z TI TO .none) (hTI : IsPair s.heap TI (.ref i1) (.ref i2)) (hTO : ∃ x y, IsPair s.heap TO x y) (h1 : s.heap.IsListIter i1 a 0) (h2 : s.heap.IsListIter i2 b 0) (hf : ∀ c ∈ [z, TI, TO, i1, i2], FpOk X pins H c ∧ c < s.heap.objs.size)
    (q : ∀ p ts H', H p = none → (∀ q o, H q = some o → H' q = some o) → H' p = some (.lst (ts.map V.ref)) → Paired (fun t (q : V × V) => H' t = some (.tup [q.1, q.2]) ∧ H t = none) ts (xs.zip ys) → Q (.ref p) H') :
    wpAny (model X.prog X.w) X.A (call (.type "list") [.ref z]) (EP X pins σ Q) X.xe s := by
  have hh : X.A.handled = none := I.ok.hd hc
  obtain ⟨_, _, _, hzl⟩ := I.list ha
  refine listZipHead hz fun h' tk c hS hk hsz => ?_
  generalize hSd : s.heap.objs.size = S at hS hsz ⊢
  have hSn : H S = none := I.hok.fresh (Nat.le_of_eq hSd)
  have I1 : Inv X pins σ (upd H S (.lst [])) { s with heap := h', toks := tk } := I.laid (t' := tk) hk (Nat.le_of_eq hSd) ⟨Nat.zero_le _, [], c, .nil, hS⟩
  have fpn : ∀ c ∈ [z, TI, TO, i1, i2], c ≠ S := fun c hc' e => by have := (hf c hc').2; rw [e, hSd] at this; exact Nat.lt_irrefl _ this
  -- the word of the loop
  let Wd : Nat → Shared → Array Value → Prop := fun i s' acc => ∃ (H' : Hp) (ts : List Addr), Inv X pins σ H' s' ∧ (∀ q o, H q = some o → H' q = some o) ∧ ts.length = i ∧ acc = (ts.map Value.ref).toArray ∧ H' S = some (.lst (ts.map V.ref)) ∧
    Paired (fun t (q : V × V) => H' t = some (.tup [q.1, q.2]) ∧ H t = none) ts ((xs.zip ys).take i) ∧ (∀ c ∈ [z, TI, TO, i1, i2], FpOk X pins H' c ∧ c < s'.heap.objs.size) ∧ s'.heap.IsListIter i1 a i ∧ s'.heap.IsListIter i2 b i ∧ IsPair s'.heap TI (.ref i1) (.ref i2) ∧
    ((i = 0 ∧ IsZip s'.heap z TI TO .none ∧ ∃ x y, IsPair s'.heap TO x y) ∨ (0 < i ∧ ∃ T f, T ∈ ts ∧ ZipB s'.heap z TI TO T f))
  have lt0 : ∀ c o, s.heap.get? c = some o → h'.get? c = some o := hk
  have W0 : Wd 0 { s with heap := h', toks := tk } #[] := by
    refine ⟨upd H S (.lst []), [], I1, fun q o e => by rw [upd_ne (ne_of_none e hSn)]; exact e, rfl, rfl, upd_same, .nil, fun c hc' => ?_, h1.at fun o e => hk _ o e, h2.at fun o e => hk _ o e, hk _ _ hTI, .inl ⟨rfl, hk _ _ hz, let ⟨x, y, e⟩ := hTO; ⟨x, y, hk _ _ e⟩⟩⟩
    obtain ⟨⟨f0, f⟩, l⟩ := hf c hc'
    exact ⟨⟨by rw [upd_ne (fpn c hc')]; exact f0, f⟩, by show c < h'.objs.size; rw [hsz, ← hSd]; exact Nat.lt_succ_of_lt l⟩
  refine extLoop (n := xs.length) Wd ?_ ?_ xs.length 0 _ #[] (by omega) (Nat.zero_le _) W0
  · rintro i s1 acc hi ⟨H1, ts, J, fr, el', rfl, hSt, pr, fp, t1, t2, pTI, st⟩
    obtain ⟨x, hx⟩ : ∃ x, xs[i]? = some x := ⟨xs[i], List.getElem?_eq_getElem hi⟩
    obtain ⟨y, hy⟩ : ∃ y, ys[i]? = some y := ⟨ys[i]'(by omega), List.getElem?_eq_getElem _⟩
    obtain ⟨its, rv, p1, _⟩ := J.list (ha.ext fr)
    obtain ⟨its2, rv2, p2, _⟩ := J.list (hb.ext fr)
    obtain ⟨u, hu, ru⟩ := rv.get hx
    obtain ⟨u2, hu2, ru2⟩ := rv2.get hy
    have hT1 : H1 s1.heap.objs.size = none := J.hok.fresh (Nat.le_refl _)
    have hT0 : H s1.heap.objs.size = none := by
      cases e : H s1.heap.objs.size with
      | none => rfl
      | some o => rw [fr _ _ e] at hT1; cases hT1
    have hSlt : S < s1.heap.objs.size := J.hok.lt hSt
    -- the end of the turn, whichever way the tuple came
    have fin : ∀ g : Heap, IsPair g s1.heap.objs.size u u2 → (∀ c o, c ∉ [z, TI, TO, i1, i2] → s1.heap.get? c = some o → g.get? c = some o) → s1.heap.objs.size ≤ g.objs.size → g.IsListIter i1 a (i + 1) → g.IsListIter i2 b (i + 1) → IsPair g TI (.ref i1) (.ref i2) → (∃ T f, T ∈ ts ++ [s1.heap.objs.size] ∧ ZipB g z TI TO T f) →
        ∃ v c, some (Value.ref s1.heap.objs.size) = some v ∧ (ts.map Value.ref).toArray.size < sizeLine ∧ g.get? S = some { cls := .type "list", dict := none, data := .seq (ts.map Value.ref).toArray c, slots := #[] } ∧
          ∀ h' c', h'.get? S = some { cls := .type "list", dict := none, data := .seq ((ts.map Value.ref).toArray.push v) c', slots := #[] } → Heap.SameBut S g h' → Wd (i + 1) { s1 with heap := h' } ((ts.map Value.ref).toArray.push v) := by
      intro g gT gk gl j1 j2 jTI jz
      have new : ObjOk X.prog X.w (upd H1 s1.heap.objs.size (.tup [x, y])) g s1.heap.objs.size (.tup [x, y]) := ⟨by show 2 ≤ sizeLine; decide, [u, u2], .cons ru (.cons ru2 .nil), ⟨_, gT, rfl, _, rfl⟩⟩
      have J2 : Inv X pins σ (upd H1 s1.heap.objs.size (.tup [x, y])) { s1 with heap := g } := J.turnedNew (t' := s1.toks) (ch := [z, TI, TO, i1, i2]) gk (fun c hc' => (fp c hc').1) (Nat.le_refl _) new
      have hS2 : upd H1 s1.heap.objs.size (.tup [x, y]) S = some (.lst (ts.map V.ref)) := by rw [upd_ne (Nat.ne_of_lt hSlt)]; exact hSt
      obtain ⟨_, its3, n3, r3, e3⟩ := J2.hok S _ hS2
      have e4 := refs_unique r3
      subst e4
      refine ⟨_, n3, rfl, by simp; omega, e3, fun g2 c' hS3 sb => ?_⟩
      have l3 : ((ts ++ [s1.heap.objs.size]).map V.ref).length ≤ sizeLine := by simp; omega
      have J3 : Inv X pins σ (upd (upd H1 s1.heap.objs.size (.tup [x, y])) S (.lst ((ts ++ [s1.heap.objs.size]).map V.ref))) { s1 with heap := g2 } :=
        J2.write (t' := s1.toks) (by rw [hS2]; trivial) (.inl rfl) (fun b u hb q => (sb.2 b hb).trans q) ⟨_, hS3⟩ ⟨l3, (ts ++ [s1.heap.objs.size]).map Value.ref, c', vals_refs _, by rw [hS3]; simp⟩
      have nT : s1.heap.objs.size ≠ S := Nat.ne_of_gt hSlt
      have up : ∀ c o, H1 c = some o → c ≠ S → (upd (upd H1 s1.heap.objs.size (.tup [x, y])) S (.lst ((ts ++ [s1.heap.objs.size]).map V.ref))) c = some o := fun c o e n => by
        rw [upd_ne n, upd_ne (ne_of_none e hT1)]; exact e
      have fz : ∀ c ∈ [z, TI, TO, i1, i2], c ≠ S := fpn
      refine ⟨_, ts ++ [s1.heap.objs.size], J3, fun q o e => up q o (fr q o e) (ne_of_none e hSn), by simp [el'], by simp, upd_same, ?_, fun c hc' => ?_, ?_, ?_, ?_, .inr ⟨Nat.succ_pos _, ?_⟩⟩
      · rw [take_zip hx hy]
        refine Paired.snoc (Paired.mapP pr fun t q z => ⟨up t _ z.1 (ne_of z.1 hSt fun z => nomatch z), z.2⟩) ⟨?_, hT0⟩
        rw [upd_ne nT, upd_same]
      · obtain ⟨⟨f0, f⟩, l⟩ := fp c hc'
        refine ⟨⟨?_, f⟩, ?_⟩
        · rw [upd_ne (fz c hc'), upd_ne (Nat.ne_of_lt l)]; exact f0
        · show c < g2.objs.size
          rw [sb.1]
          exact Nat.lt_of_lt_of_le l gl
      · exact j1.at fun o e => (sb.2 _ (fz i1 (by simp))).trans e
      · exact j2.at fun o e => (sb.2 _ (fz i2 (by simp))).trans e
      · exact (sb.2 _ (fz TI (by simp))).trans jTI
      · obtain ⟨T, f, hm, e⟩ := jz
        exact ⟨T, f, hm, (sb.2 _ (fz z (by simp))).trans e⟩
    rcases st with ⟨rfl, sz, x0, y0, sTO⟩ | ⟨ip, T, f, hm, sz⟩
    · refine wpAny_pyNext_zip_item D sz pTI sTO t1 t2 p1.isList p2.isList (x := u) (y := u2) (by simpa using hu) (by simpa using hu2) fun g g1 g2 g3 g4 g5 g6 g7 => ?_
      have hts : ts = [] := List.length_eq_zero_iff.mp el'
      exact fin g g5 (fun c o n q => g7 c o (fun e => n (by simp [e])) (fun e => n (by simp [e])) (fun e => n (by simp [e])) (fun e => n (by simp [e])) q) (by omega) g3 g4 (g7 _ _ D.TIz D.TITO D.TIi1 D.TIi2 pTI) ⟨_, false, by simp, g1⟩
    · obtain ⟨o, ho⟩ : ∃ o, s1.heap.get? T = some o := by
        obtain ⟨j, hj, e⟩ := List.getElem_of_mem hm
        obtain ⟨_, _, h3, _⟩ := pairedAt pr (i := j) (a := T) (by rw [List.getElem?_eq_getElem hj, e])
        obtain ⟨_, _, _, o, g, _⟩ := J.hok T _ h3
        exact ⟨o, g⟩
      refine zipB_item D sz ho pTI t1 t2 p1.isList p2.isList (x := u) (y := u2) (by simpa using hu) (by simpa using hu2) fun g g1 g2 g3 g4 g5 => ?_
      have gl : s1.heap.objs.size ≤ g.objs.size := Nat.le_of_lt (Heap.lt_size g4)
      exact fin g g4 (fun c o n q => g5 c o (fun e => n (by simp [e])) (fun e => n (by simp [e])) (fun e => n (by simp [e])) q) gl g2 g3 (g5 _ _ D.TIz D.TIi1 D.TIi2 pTI) ⟨T, true, by simp [hm], g1⟩
  · rintro s1 acc ⟨H1, ts, J, fr, el', rfl, hSt, pr, fp, t1, t2, pTI, st⟩
    obtain ⟨its, rv, p1, _⟩ := J.list (ha.ext fr)
    rcases st with ⟨e, _⟩ | ⟨ip, T, f, hm, sz⟩
    · omega
    · obtain ⟨o, ho⟩ : ∃ o, s1.heap.get? T = some o := by
        obtain ⟨j, hj, e⟩ := List.getElem_of_mem hm
        obtain ⟨_, _, h3, _⟩ := pairedAt pr (i := j) (a := T) (by rw [List.getElem?_eq_getElem hj, e])
        obtain ⟨_, _, _, o, g, _⟩ := J.hok T _ h3
        exact ⟨o, g⟩
      have lv := rv.length
      refine zipB_end (A := X.A.in1.in1) hh D sz ho pTI t1 p1.isList (by simp; omega) fun g gk => ⟨rfl, rfl, .ref S, H1, ?_, rfl, q S ts H1 hSn fr hSt ?_⟩
      · exact J.turnedL (t' := s1.toks) (ch := [z, TI, TO, i1, i2]) (fun c o n q => gk c o (fun e => n (by simp [e])) (fun e => n (by simp [e])) q) fun c hc' => (fp c hc').1
      · rw [List.take_of_length_le (by rw [List.length_zip]; omega)] at pr
        exact pr
theorem pe_zipl {e1 e2 : Expr} {t1 t2 : TE} {p p2 pos pos2 : Pos} (hc : X.calm = true) (hg : Gl X "list") (hm : X.mg "list" = none) (hg2 : Gl X "zip") (hm2 : X.mg "zip" = none) (h1 : PE X e1 t1) (h2 : PE X e2 t2)
    (s1 : ∀ es, starEach (e1 :: es) X.env = (false, eval e1 X.env) :: starEach es X.env) (s2 : ∀ es, starEach (e2 :: es) X.env = (false, eval e2 X.env) :: starEach es X.env) :
    PE X (.Call (.Name "list" p) [.Call (.Name "zip" p2) [e1, e2] [] pos2] [] pos) (tOp (rZipL X.K) t1 t2) := by
  intro pins s σ H Q I h
  have ha : PA X [e1, e2] (tCons t1 (tCons t2 tNil)) := pa_cons h1 (pa_cons h2 pa_nil (s2 _)) (s1 _)
  refine wpAny_Call_Name_kw (ld_blt I hg hm (show bootBuiltins "list" = some (.type "list") by decide +kernel) ?_ (by decide) (by decide))
  refine PyProof.Rows.callWith_type1 ?_ rfl rfl
  refine Calls.spliced_cons ?_
  refine Call_ (ld_blt I hg2 hm2 boot_zip5 (PyProof.Rows.callWith_type1 (thn (ha pos2 pins s σ H (fun vs H2 => match vs with | [x, y] => rZipL X.K x y H2 Q | _ => False) I h) fun us s1' ⟨vs, H1, I1, r1, q1⟩ => ?_) (s1 _) (by rw [s2]; rfl)))
  match vs, r1, q1 with
  | [x, y], r1, q1 =>
    obtain ⟨a, b, xs, ys, rfl, rfl, hqx, hqy, el, hp, q⟩ := q1
    cases r1 with
    | cons r rr =>
      cases rr with
      | cons r' rr =>
        cases rr
        cases r
        cases r'
        obtain ⟨its, rv, p1, _⟩ := I1.list hqx
        obtain ⟨its2, rv2, p2, _⟩ := I1.list hqy
        have la : a < s1'.heap.objs.size := p1.lt
        have lb : b < s1'.heap.objs.size := p2.lt
        refine call_zip_2 p1.isList p2.isList fun h' hz hTI hTO h1 h2 hsz hk => ?_
        have I2 : Inv X pins σ H1 { s1' with heap := h' } := I1.kept (t' := s1'.toks) hk
        refine Calls.spliced_nil ?_
        refine zip_list hc (PySem.W.ktu_apart s1'.heap.objs.size a b la lb) I2 hqx hqy el hp hz hTI ⟨_, _, hTO⟩ h1 h2 (fun c hcm => ?_) q
        have e' : c = s1'.heap.objs.size + 4 ∨ c = s1'.heap.objs.size + 2 ∨ c = s1'.heap.objs.size + 3 ∨ c = s1'.heap.objs.size ∨ c = s1'.heap.objs.size + 1 := by simpa using hcm
        have hle : s1'.heap.objs.size ≤ c ∧ c < h'.objs.size := by
          rw [hsz]
          rcases e' with z | z | z | z | z <;> (rw [z]; refine ⟨?_, ?_⟩ <;> first | exact Nat.le_refl _ | exact Nat.le_add_right _ _ | exact Nat.add_lt_add_left (by decide) _ | exact Nat.lt_add_of_pos_right (by decide))
        exact ⟨I1.fpOk hle.1 (I1.hok.fresh hle.1), hle.2⟩
end
end L2
set_option Elab.async false
set_option linter.all false
set_option maxRecDepth 100000
set_option maxHeartbeats 4000000
namespace L2
open PySem PySem.Spec PyProof.Rows
theorem ri_rev : isSubtype (.type "range_iterator") (.type "reversed") = pure false := by rw [isSubtype_type]; kernel_rfl
section
variable {prog : Program} {w : World} {A : Around} {E : Value → Shared → Prop} {s : Shared}
theorem asInt_int (i : Int) (t : Tok) : asInt? (.int i t) = pure (some i) := rfl
theorem rFields {r : Addr} {a b c : Int} {t u v : Tok} {Q : Int × Int × Int → Shared → Prop} (hr : IsRange s.heap r a b c t u v) (h : Q (a, b, c) s) : wpAny (model prog w) A (Builtin.Range.rangeFields (.ref r)) Q E s := by
  unfold Builtin.Range.rangeFields
  refine wpAny_bind (wpAny_field hr rfl (x := .int a t) rfl (wpAny_bind (wpAny_of_eq (asInt_int a t) ?_)))
  refine wpAny_bind (wpAny_field hr rfl (x := .int b u) rfl (wpAny_bind (wpAny_of_eq (asInt_int b u) ?_)))
  refine wpAny_bind (wpAny_field hr rfl (x := .int c v) rfl (wpAny_bind (wpAny_of_eq (asInt_int c v) ?_)))
  exact wpAny_pure h
theorem range_rev {r : Addr} {n : Nat} {t u v : Tok} {Q : Value → Shared → Prop} (hr : IsRange s.heap r 0 n 1 t u v) (hn : (n : Int) < 2 ^ 62)
    (h : Q (.ref s.heap.objs.size) { s with heap := s.heap.push { cls := .type "range_iterator", data := .fields #[rawInt ((n : Int) - 1), rawInt n, rawInt (-1)] } }) : wpAny (model prog w) A (call (.builtin "range.__reversed__") [.ref r]) Q E s := by
  refine wpAny_call_entry F.slot_range_reversed ⟨_, hr, rfl⟩ F.entry_range_reversed ?_ (F.args_range_reversed_1 _)
  unfold Builtin.«range.__reversed__»
  refine wpAny_bind (wpAny_of_eq (a := Value.ref r) rfl (wpAny_bind (rFields hr ?_)))
  have hz : Builtin.Range.rangeSize 0 n 1 = n := by rw [rangeSize_one]; split <;> omega
  dsimp only
  rw [hz]
  have fits : (Builtin.Range.rangeFitsLong 0 && Builtin.Range.rangeFitsLong n && Builtin.Range.rangeFitsLong 1 && Builtin.Range.rangeFitsLong (-1) && Builtin.Range.rangeFitsLong (0 - 1) && Builtin.Range.rangeFitsLong n) = true := by
    simp only [Builtin.Range.rangeFitsLong, Bool.and_eq_true, decide_eq_true_eq]
    omega
  rw [fits]
  have e : (0 : Int) + ((n : Int) - 1) * 1 = n - 1 := by omega
  rw [e]
  exact wpAny_bind (wpAny_newObj_type (wpAny_pure ⟨_, rfl, h⟩))
theorem call_rev_range {r : Addr} {n : Nat} {t u v : Tok} {Q : Value → Shared → Prop} (hr : IsRange s.heap r 0 n 1 t u v) (hn : (n : Int) < 2 ^ 62)
    (h : Q (.ref s.heap.objs.size) { s with heap := s.heap.push { cls := .type "range_iterator", data := .fields #[rawInt ((n : Int) - 1), rawInt n, rawInt (-1)] } }) : wpAny (model prog w) A (call (.type "reversed") [.ref r]) Q E s := by
  have T : s.TypeIs (.ref r) "range" := ⟨_, hr, rfl⟩
  refine callType_other (U := "range_iterator") (Q₁ := fun obj s₁ => obj = .ref s.heap.objs.size ∧ s₁ = { s with heap := s.heap.push { cls := .type "range_iterator", data := .fields #[rawInt ((n : Int) - 1), rawInt n, rawInt (-1)] } }) (by decide +kernel) F.create_reversed ⟨_, _, F.mro_reversed⟩ F.made_reversed ri_rev (F.typeCall_reversed_1 _) ?_ ?_
  · refine codeAny_of_tree ?_
    show wpAny _ _ (do checkBuiltinCall "reversed.__new__" ⟨[.type "reversed", .ref r], []⟩; again (.builtin "reversed.__new__" ⟨[.type "reversed", .ref r], []⟩)) _ _ s
    refine wpAny_bind (wpAny_of_eq (F.newCall_reversed_1 _) (wpAny_pure ⟨plainId_quiet F.plain_reversed_new _, codeAny_builtin F.entry_reversed_new ?_⟩))
    rw [Around.under_plainId F.plain_reversed_new _]
    unfold Builtin.«reversed.__new__»
    refine wpAny_bind (wpAny_of_eq (newClass_reversed _) (wpAny_bind (wpAny_of_eq (a := ()) (by first | rfl | kernel_rfl) (wpAny_bind (wpAny_of_eq (a := ()) (by first | rfl | kernel_rfl) ?_)))))
    refine wpAny_bind (wpAny_specialOf T F.slot_range_reversed.lookup (wpAny_bind (wpAny_of_eq (F.slot_range_reversed.bind _) ?_)))
    show wpAny _ _ (if (Value.builtin "range.__reversed__" == Value.none) = true then _ else _) _ _ _
    rw [if_neg (show ¬ ((Value.builtin "range.__reversed__" == Value.none) = true) from Bool.false_ne_true)]
    refine wpAny_bind (wpAny_rule (wpAny_bind (m := runValue (.call (.builtin "range.__reversed__") ⟨[.ref r], []⟩)) (show wpAny _ _ (call (.builtin "range.__reversed__") [.ref r]) _ _ _ from range_rev hr hn ?_)))
    first
    | exact wpAny_pure ⟨rfl, rfl⟩
    | exact wpAny_bind (wpAny_pure (wpAny_pure ⟨rfl, rfl⟩))
  · rintro obj s₁ ⟨rfl, rfl⟩
    exact ⟨⟨_, Heap.get?_push_size _ rfl, rfl⟩, h⟩
end
section
variable {X : Cx} {tg : Expr}
def iRevR (ta : TE) : TI := fun σ H R => ta σ H fun x H1 => ∃ n : Nat, x = .int n ∧ (n : Int) < 2 ^ 62 ∧ R (Itc ((n : Int) - 1) (-1) n) H1
theorem pi_revr {a : Expr} {ta : TE} {p p2 pos pos2 : Pos} (hg : Gl X "reversed") (hm : X.mg "reversed" = none) (hg2 : Gl X "range") (hm2 : X.mg "range" = none) (ha : PE X a ta) (hs : starEach [a] X.env = [(false, eval a X.env)]) :
    PI X tg (.Call (.Name "reversed" p) [.Call (.Name "range" p2) [a] [] pos2] [] pos) (iRevR ta) := by
  intro pins s σ H R I h
  have hpa : PA X [a] (tCons ta tNil) := pa_cons ha pa_nil hs
  refine Call_ (ld_blt I hg hm boot_reversed5 (PyProof.Rows.callWith_type1 ?_ rfl rfl))
  refine Calls.spliced_cons ?_
  refine Call_ (ld_blt I hg2 hm2 boot_range (PyProof.Rows.callWith_type1 (thn (hpa pos2 pins s σ H (fun vs H1 => match vs with | [x] => ∃ n : Nat, x = .int n ∧ (n : Int) < 2 ^ 62 ∧ R (Itc ((n : Int) - 1) (-1) n) H1 | _ => False) I h) fun us s1 ⟨vs, H1, I1, r1, q1⟩ => ?_) hs rfl))
  match vs, r1, q1 with
  | [x], r1, q1 =>
    obtain ⟨n, rfl, hn, q⟩ := q1
    cases r1 with
    | cons r rr =>
      cases rr
      obtain ⟨t, rfl⟩ := r
      refine call_range_1 (Calls.spliced_nil ?_)
      generalize hs2 : ({ s1 with heap := s1.heap.push { cls := .type "range", data := .fields #[.int 0 s1.toks, .int n t, .int 1 (s1.toks + 1)] }, toks := s1.toks + 1 + 1 } : Shared) = s2
      have I2 : Inv X pins σ H1 s2 := by rw [← hs2]; exact I1.kept fun b o e => Heap.get?_push_of_some _ e
      have hr : IsRange s2.heap s1.heap.objs.size 0 n 1 s1.toks t (s1.toks + 1) := by rw [← hs2]; exact Heap.get?_push_size _ rfl
      refine call_rev_range hr hn ?_
      have st : IsRangeIter (s2.heap.push { cls := .type "range_iterator", data := .fields #[rawInt ((n : Int) - 1), rawInt n, rawInt (-1)] }) s2.heap.objs.size (((n : Int) - 1) + ((0 : Nat) : Int) * (-1)) ((n : Int) - ((0 : Nat) : Int)) (-1) := by
        have e1 : ((n : Int) - 1) + ((0 : Nat) : Int) * (-1) = n - 1 := by simp
        have e2 : (n : Int) - ((0 : Nat) : Int) = n := by simp
        rw [e1, e2]
        exact Heap.get?_push_size _ rfl
      refine wpAny_pyIter_rangeiter st ?_
      exact pi_one (tk := s2.toks) I2 _ (turn_rangeC _ ((n : Int) - 1) (-1) n) st q
end
end L2
set_option Elab.async false
set_option linter.all false
set_option maxRecDepth 100000
set_option maxHeartbeats 4000000
namespace L2
open PySem PySem.Spec PyProof.Rows
def clsA (K : PySem.W.Frag) (x : Str) : Addr := match PySem.W.nsIn K mainGlobals x with | some (some (.ref a)) => a | _ => 0
structure Mk0 (K : PySem.W.Frag) (C : Addr) : Prop where
  makes : PySem.W.makesIn K C = true
  init : PySem.W.findIn K (.ref C) "__init__" = some (some (.builtin "object.__init__"))
  kp : PySem.W.keepIn K (.ref C) = true
section
variable {X : Cx} {C : Addr} {x : Str} {p pos : Pos}
theorem run_make0 {pins : List (Addr × Obj)} {σ : St} {H : Hp} {s : Shared} {Q : VK} (M : Mk0 X.K C) (I : Inv X pins σ H s)
    (h : ∀ x dx, H x = none → H dx = none → dx ≠ x → Q (.ref x) (upd (upd H dx (.own x)) x (.ins C dx []))) : wpAny (model X.prog X.w) X.A (call (.ref C) []) (EP X pins σ Q) X.xe s := by
  have hq := h (s.heap.objs.size + 1) s.heap.objs.size (I.hok.fresh (Nat.le_succ _)) (I.hok.fresh (Nat.le_refl _)) (Nat.ne_of_lt (Nat.lt_succ_self _))
  have I2 := Inv.made (C := C) I
  refine wpAny_call (make_map0 I.kIn M.makes M.init (fun self => PySem.W.Looks.of_pure (PySem.W.oi_bind self)) ?_)
  have Y := PySem.W.makes_of (M := model X.prog X.w) I.kIn M.makes
  have k : ∀ b o, s.heap.get? b = some o → ((s.heap.push PySem.W.emptyDict).push (PySem.W.instObj C s.heap.objs.size)).get? b = some o := fun b o e => Heap.get?_push_of_some _ (Heap.get?_push_of_some _ e)
  have g : ((s.heap.push PySem.W.emptyDict).push (PySem.W.instObj C s.heap.objs.size)).get? (s.heap.objs.size + 1) = some (PySem.W.instObj C s.heap.objs.size) := by
    have e := Heap.get?_push_size (s.heap.push PySem.W.emptyDict) (o := PySem.W.instObj C s.heap.objs.size) rfl
    rwa [Heap.size_push] at e
  have t1 : PySem.W.Looks (model X.prog X.w) ((s.heap.push PySem.W.emptyDict).push (PySem.W.instObj C s.heap.objs.size)) (typeOf (.ref (s.heap.objs.size + 1))) (.ref C) := (PySem.W.Looks.ld g).andThen .now
  have t2 : PySem.W.Looks (model X.prog X.w) ((s.heap.push PySem.W.emptyDict).push (PySem.W.instObj C s.heap.objs.size)) (isInstance (.ref (s.heap.objs.size + 1)) (.type "object")) true := t1.andThen (Y.top.keeps k)
  obtain ⟨hh, gg, d, t, os⟩ := s
  refine codeAny_call_builtin PySem.W.oi_plain PySem.W.entry_oi (@PySem.W.check_slot (model X.prog X.w) _ _ _ "object.__init__" "object" "__init__" (.ref (hh.objs.size + 1)) [] [] _ PySem.W.oi_kind PySem.W.oi_split t2 (PySem.W.oi_args (.ref (hh.objs.size + 1))) ?_)
  rw [PySem.W.oi_run]
  exact wpAny_pure ⟨rfl, .ref (hh.objs.size + 1), _, I2, rfl, hq⟩
theorem pe_mk0 (M : Mk0 X.K C) (hg : Gl X x) (hm : X.mg x = some (.ref C)) (hdb : (x == ("__debug__" : Str)) = false) :
    PE X (.Call (.Name x p) [] [] pos) (fun _ H Q => ∀ x dx, H x = none → H dx = none → dx ≠ x → Q (.ref x) (upd (upd H dx (.own x)) x (.ins C dx []))) := by
  intro pins s σ H Q I h
  exact wpAny_Call_Name_kw (ld_glob I hg hm (PySem.W.callWith_K0 I.kIn M.kp (run_make0 M I h)) hdb)
end
section
variable {κ : Type} [DecidableEq κ] {𝔡 : Dk κ} {X : Cx}
def rDIn (𝔡 : Dk κ) (neg : Bool) : R2 := fun x y H Q => ∃ b a k kvs, x = .ref b ∧ y = .ref a ∧ H a = some (𝔡.ho kvs) ∧ 𝔡.at' H b k ∧ Q (.bl (bif neg then !(valV kvs k).isSome else (valV kvs k).isSome)) H
def rDIx (𝔡 : Dk κ) : R2 := fun x y H Q => ∃ a b k kvs v, x = .ref a ∧ y = .ref b ∧ Rd H a (𝔡.ho kvs) ∧ 𝔡.at' H b k ∧ valV kvs k = some v ∧ Q v H
theorem op_dIn (hu : X.A.units + 2 < cLine) : OpR X (compareOp .In) (rDIn 𝔡 false) := by
  intro pins s σ H x y v u Q I rx ry h
  obtain ⟨b, a, k, kvs, rfl, rfl, e, eb, q⟩ := h
  cases rx
  cases ry
  exact dd_in hu I (.inl e) eb fun s3 I3 => ⟨.bl _, H, I3, rfl, q⟩
theorem op_dNotIn (hu : X.A.units + 2 < cLine) : OpR X (compareOp .NotIn) (rDIn 𝔡 true) := by
  intro pins s σ H x y v u Q I rx ry h
  obtain ⟨b, a, k, kvs, rfl, rfl, e, eb, q⟩ := h
  cases rx
  cases ry
  exact dd_notIn hu I (.inl e) eb fun s3 I3 => ⟨.bl _, H, I3, rfl, q⟩
theorem dd_type {pins : List (Addr × Obj)} {σ : St} {H : Hp} {s : Shared} {a : Addr} {kvs : List (κ × V)} (I : Inv X pins σ H s) (e : Rd H a (𝔡.ho kvs)) : s.TypeIs (.ref a) "dict" := by
  obtain ⟨_, _, xs, _, dd⟩ := dd_rd I.hok e
  exact dd.typeIs
theorem pe_dix {o i : Expr} {ta tb : TE} {pos : Pos} (hu : X.A.units + 2 < cLine) (ho : PE X o ta) (hi : PE X i tb) (hs : NoSl i) : PE X (.Subscript o i pos) (tOp (rDIx 𝔡) ta tb) := by
  intro pins s σ H Q I h
  refine subD_of PySem.F.slot_dict_getitem.lookup hs (thn (ho pins s σ H _ I h) fun u s1 ⟨x, H1, I1, rx, q1⟩ => thn (hi pins s1 σ H1 _ I1 q1) fun iv s2 ⟨y, H2, I2, ry, a, b, k, kvs, v, ex, ey, ea, eb, l, q2⟩ => ?_)
  subst ex ey
  obtain rfl : u = Value.ref a := rx
  obtain rfl : iv = Value.ref b := ry
  exact ⟨dd_type I2 ea, dd_getItem hu I2 ea eb l fun w' s3 I3 rw' => ⟨v, H2, I3, rw', q2⟩⟩
def rDLen (𝔡 : Dk κ) : List V → Hp → VK → Prop := fun xs H Q => ∃ a kvs, xs = [.ref a] ∧ H a = some (𝔡.ho kvs) ∧ Q (.int kvs.length) H
def rDList (𝔡 : Dk κ) : List V → Hp → VK → Prop := fun xs H Q => ∃ a kvs, xs = [.ref a] ∧ H a = some (𝔡.ho kvs) ∧ ∀ p qs, H p = none → Paired (fun (q : Addr) (kv : κ × V) => 𝔡.at' H q kv.1) qs kvs → Q (.ref p) (upd H p (.lst (qs.map V.ref)))
theorem cr_dlen : CallR X (.builtin "len") (rDLen 𝔡) := by
  intro pins s σ H xs us Q I r h
  obtain ⟨a, kvs, rfl, e, q⟩ := h
  rw [Vals.ref1 r]
  exact dd_len I (.inl e) fun t s' I' => ⟨.int _, H, I', ⟨t, rfl⟩, q⟩
theorem cr_dlist (hc : X.calm = true) : CallR X (.type "list") (rDList 𝔡) := by
  intro pins s σ H xs us Q I r h
  obtain ⟨a, kvs, rfl, e, q⟩ := h
  rw [Vals.ref1 r]
  exact dd_list (I.ok.hd hc) I (.inl e) fun p qs s' hp hq I' => ⟨.ref p, _, I', rfl, q p qs hp hq⟩
end
end L2
set_option Elab.async false
set_option linter.all false
namespace PySem
theorem Runs.det {M : Model} : ∀ {Γ : Ctx} {p : Pos} {t : Sem Fin} {fs : List Frame} {s : Shared} {e : End} {s' : Shared}, Runs M Γ p t fs s e s' → ∀ {e2 : End} {s2 : Shared}, Runs M Γ p t fs s e2 s2 → e = e2 ∧ s' = s2 := by
  intro Γ p t fs s e s' h
  induction h with
  | done => intro e2 s2 h2; cases h2; exact ⟨rfl, rfl⟩
  | raise => intro e2 s2 h2; cases h2; exact ⟨rfl, rfl⟩
  | again _ _ ih => intro e2 s2 h2; cases h2 with | again _ h => exact ih h
  | rule _ ih => intro e2 s2 h2; cases h2 with | rule h => exact ih h
  | «at» _ ih => intro e2 s2 h2; cases h2 with | «at» h => exact ih h
  | load h1 _ ih => intro e2 s2 h2; cases h2 with | load h3 h => rw [h1] at h3; cases h3; exact ih h
  | update _ _ ih => intro e2 s2 h2; cases h2 with | update _ h => exact ih h
  | loadIfAlive _ ih => intro e2 s2 h2; cases h2 with | loadIfAlive h => exact ih h
  | point _ ih => intro e2 s2 h2; cases h2 with | point h => exact ih h
  | alloc _ ih => intro e2 s2 h2; cases h2 with | alloc h => exact ih h
  | fresh _ ih => intro e2 s2 h2; cases h2 with | fresh h => exact ih h
  | ask _ ih => intro e2 s2 h2; cases h2 with | ask h => exact ih h
  | choose _ _ ih => intro e2 s2 h2; cases h2 with | choose _ h => exact ih h
  | os _ ih => intro e2 s2 h2; cases h2 with | os h => exact ih h
  | handled _ ih => intro e2 s2 h2; cases h2 with | handled h => exact ih h
  | genState h1 _ ih => intro e2 s2 h2; cases h2 with | genState h3 h => rw [h1] at h3; cases h3; exact ih h
  | stack _ ih => intro e2 s2 h2; cases h2 with | stack h => exact ih h
  | thread _ ih => intro e2 s2 h2; cases h2 with | thread h => exact ih h
  | newGen _ ih => intro e2 s2 h2; cases h2 with | newGen h => exact ih h
  | call _ _ ih1 ih2 =>
    intro e2 s2 h2
    cases h2 with
    | call h3 h4 => obtain ⟨e, rfl⟩ := ih1 h3; cases e; exact ih2 h4
    | callSusp h3 => obtain ⟨e, _⟩ := ih1 h3; cases e
  | callSusp _ ih =>
    intro e2 s2 h2
    cases h2 with
    | call h3 h4 => obtain ⟨e, _⟩ := ih h3; cases e
    | callSusp h3 => obtain ⟨e, rfl⟩ := ih h3; cases e; exact ⟨rfl, rfl⟩
  | yield => intro e2 s2 h2; cases h2; exact ⟨rfl, rfl⟩
  | resumeFresh h1 _ _ _ ih1 ih2 =>
    intro e2 s2 h2
    cases h2 with
    | resumeFresh h3 h4 _ h5 => rw [h1] at h3; cases h3; obtain ⟨rfl, rfl⟩ := ih1 h4; exact ih2 h5
    | resumeSuspended h3 => rw [h1] at h3; cases h3
    | resumeJustStarted _ h => exact absurd rfl h
    | resumeRunning h3 => rw [h1] at h3; cases h3
    | resumeFinished h3 => rw [h1] at h3; cases h3
  | resumeSuspended h1 _ _ _ ih1 ih2 =>
    intro e2 s2 h2
    cases h2 with
    | resumeFresh h3 => rw [h1] at h3; cases h3
    | resumeSuspended h3 h4 _ h5 => rw [h1] at h3; cases h3; obtain ⟨rfl, rfl⟩ := ih1 h4; exact ih2 h5
    | resumeJustStarted h3 => rw [h1] at h3; cases h3
    | resumeThrowFresh h3 => rw [h1] at h3; cases h3
    | resumeRunning h3 => rw [h1] at h3; cases h3
    | resumeFinished h3 => rw [h1] at h3; cases h3
  | resumeJustStarted h1 hv _ ih =>
    intro e2 s2 h2
    cases h2 with
    | resumeFresh => exact absurd rfl hv
    | resumeSuspended h3 => rw [h1] at h3; cases h3
    | resumeJustStarted _ _ h => exact ih h
    | resumeRunning h3 => rw [h1] at h3; cases h3
    | resumeFinished h3 => rw [h1] at h3; cases h3
  | resumeThrowFresh h1 _ ih =>
    intro e2 s2 h2
    cases h2 with
    | resumeSuspended h3 => rw [h1] at h3; cases h3
    | resumeThrowFresh _ h => exact ih h
    | resumeRunning h3 => rw [h1] at h3; cases h3
    | resumeFinished h3 => rw [h1] at h3; cases h3
  | resumeRunning h1 _ ih =>
    intro e2 s2 h2
    cases h2 with
    | resumeFresh h3 => rw [h1] at h3; cases h3
    | resumeSuspended h3 => rw [h1] at h3; cases h3
    | resumeJustStarted h3 => rw [h1] at h3; cases h3
    | resumeThrowFresh h3 => rw [h1] at h3; cases h3
    | resumeRunning _ h => exact ih h
    | resumeFinished h3 => rw [h1] at h3; cases h3
  | resumeFinished h1 _ ih =>
    intro e2 s2 h2
    cases h2 with
    | resumeFresh h3 => rw [h1] at h3; cases h3
    | resumeSuspended h3 => rw [h1] at h3; cases h3
    | resumeJustStarted h3 => rw [h1] at h3; cases h3
    | resumeThrowFresh h3 => rw [h1] at h3; cases h3
    | resumeRunning h3 => rw [h1] at h3; cases h3
    | resumeFinished _ h => exact ih h
  | segRet _ _ ih1 ih2 =>
    intro e2 s2 h2
    cases h2 with
    | segRet h3 h4 => obtain ⟨e, rfl⟩ := ih1 h3; cases e; exact ih2 h4
    | segSuspOut _ h3 => obtain ⟨e, _⟩ := ih1 h3; cases e
    | segSuspGen _ h3 => obtain ⟨e, _⟩ := ih1 h3; cases e
  | segGen _ _ ih1 ih2 =>
    intro e2 s2 h2
    cases h2 with
    | segGen h3 h4 => obtain ⟨e, rfl⟩ := ih1 h3; cases e; exact ih2 h4
    | segSuspOut _ h3 => obtain ⟨e, _⟩ := ih1 h3; cases e
    | segSuspGen _ h3 => obtain ⟨e, _⟩ := ih1 h3; cases e
  | segSuspOut h0 _ ih =>
    intro e2 s2 h2
    cases h2 with
    | segRet h3 h4 => obtain ⟨e, _⟩ := ih h3; cases e
    | segGen h3 h4 => obtain ⟨e, _⟩ := ih h3; cases e
    | segSuspOut _ h3 => obtain ⟨e, rfl⟩ := ih h3; cases e; exact ⟨rfl, rfl⟩
    | segSuspGen h1 h3 => rw [h0] at h1; cases h1
  | segSuspGen h0 _ _ _ ih1 ih2 =>
    intro e2 s2 h2
    cases h2 with
    | segRet h3 h4 => obtain ⟨e, _⟩ := ih1 h3; cases e
    | segGen h3 h4 => obtain ⟨e, _⟩ := ih1 h3; cases e
    | segSuspOut h1 h3 => rw [h0] at h1; cases h1
    | segSuspGen h1 h3 _ h4 => rw [h0] at h1; cases h1; obtain ⟨e, rfl⟩ := ih1 h3; cases e; exact ih2 h4
end PySem
namespace PySem
theorem Wakes.det {M : Model} {Γ : Ctx} {p : Pos} {g : Nat} {r : Resume} {s : Shared} {res res2 : GenResult} {s' s2 : Shared} (h1 : Wakes M Γ p g r s res s') (h2 : Wakes M Γ p g r s res2 s2) : res = res2 ∧ s' = s2 := by
  unfold Wakes at h1 h2
  cases hg : s.gens[g]? with
  | none => rw [hg] at h1; exact h1.elim
  | some st =>
    rw [hg] at h1 h2
    cases st with
    | fresh c =>
      cases r with
      | send v =>
        by_cases hv : v = .none
        · subst hv
          obtain ⟨e1, t1, a1, _, rfl, rfl⟩ := h1
          obtain ⟨e2, t2, a2, _, rfl, rfl⟩ := h2
          obtain ⟨rfl, rfl⟩ := a1.det a2
          exact ⟨rfl, rfl⟩
        · cases v with
          | none => exact absurd rfl hv
          | _ => obtain ⟨rfl, rfl⟩ := h1; obtain ⟨rfl, rfl⟩ := h2; exact ⟨rfl, rfl⟩
      | throw x => obtain ⟨rfl, rfl⟩ := h1; obtain ⟨rfl, rfl⟩ := h2; exact ⟨rfl, rfl⟩
    | suspended k l c p0 fs b =>
      obtain ⟨e1, t1, a1, _, rfl, rfl⟩ := h1
      obtain ⟨e2, t2, a2, _, rfl, rfl⟩ := h2
      obtain ⟨rfl, rfl⟩ := a1.det a2
      exact ⟨rfl, rfl⟩
    | running => obtain ⟨rfl, rfl⟩ := h1; obtain ⟨rfl, rfl⟩ := h2; exact ⟨rfl, rfl⟩
    | finished => obtain ⟨rfl, rfl⟩ := h1; obtain ⟨rfl, rfl⟩ := h2; exact ⟨rfl, rfl⟩
theorem wp_meet {α : Type} {M : Model} {Γ : Ctx} {Q1 Q2 : α → Pos → Shared → Prop} {E1 E2 : Value → Pos → Shared → Prop} : ∀ {t : Sem α} {p : Pos} {s : Shared},
    Sem.wp M Γ t Q1 E1 p s → Sem.wp M Γ t Q2 E2 p s → (∃ a p' s', Q1 a p' s' ∧ Q2 a p' s') ∨ ∃ e p' s', E1 e p' s' ∧ E2 e p' s' := by
  intro t
  induction t with
  | pure a => intro p s h1 h2; exact .inl ⟨a, p, s, h1, h2⟩
  | raise e => intro p s h1 h2; exact .inr ⟨e, p, s, h1, h2⟩
  | unsupported => intro p s h1 h2; exact h1.elim
  | finish => intro p s h1 h2; exact h1.elim
  | rule _ k ih => intro p s h1 h2; exact ih () h1 h2
  | «at» p' k ih => intro p s h1 h2; exact ih () h1 h2
  | load a _ k ih =>
    intro p s h1 h2
    obtain ⟨o, e, h1⟩ := h1
    obtain ⟨o2, e2, h2⟩ := h2
    rw [e] at e2; cases e2
    exact ih o h1 h2
  | update a _ f k ih => intro p s h1 h2; exact ih () h1.2 h2.2
  | loadIfAlive a k ih => intro p s h1 h2; exact ih _ h1 h2
  | point _ k ih => intro p s h1 h2; exact ih () h1 h2
  | register => intro p s h1 h2; exact h1.elim
  | alloc o k ih => intro p s h1 h2; exact ih _ h1 h2
  | fresh k ih => intro p s h1 h2; exact ih _ h1 h2
  | ask k ih => intro p s h1 h2; exact ih _ h1 h2
  | choose src n k ih => intro p s h1 h2; exact ih _ h1.2 h2.2
  | os q _ k ih => intro p s h1 h2; exact ih _ h1 h2
  | call c h g l k ih =>
    intro p s h1 h2
    obtain ⟨r, t, a, h1⟩ := h1
    obtain ⟨r2, t2, a2, h2⟩ := h2
    obtain ⟨e, rfl⟩ := Runs.det a a2
    cases e
    exact ih r h1 h2
  | handled own k ih => intro p s h1 h2; exact ih _ h1 h2
  | genState g k ih =>
    intro p s h1 h2
    obtain ⟨o, e, h1⟩ := h1
    obtain ⟨o2, e2, h2⟩ := h2
    rw [e] at e2; cases e2
    exact ih _ h1 h2
  | newGen c k ih => intro p s h1 h2; exact ih _ h1 h2
  | resume g r l k ih =>
    intro p s h1 h2
    obtain ⟨r, t, a, h1⟩ := h1
    obtain ⟨r2, t2, a2, h2⟩ := h2
    obtain ⟨rfl, rfl⟩ := Wakes.det a a2
    exact ih _ h1 h2
  | yield => intro p s h1 h2; exact h1.elim
  | stack k ih => intro p s h1 h2; exact ih _ h1 h2
  | fork => intro p s h1 h2; exact h1.elim
  | thread k ih => intro p s h1 h2; exact ih _ h1 h2
  | await => intro p s h1 h2; exact h1.elim
end PySem
set_option Elab.async false
set_option linter.all false
namespace PyProof.Rows.Sm
open PySem
set_option autoImplicit false
structure Two where
  M : Model
  Γ : Ctx
  s : Shared
  E : Value → Shared → Prop
  D : Keyed → Prop
  f : Keyed → Keyed
  kd1 : SortKind
  kd2 : SortKind
abbrev Two.Z (T : Two) : Type := {x : Keyed // T.D x}
structure Two.St (T : Two) where
  arr : Array T.Z
  pend : Array (Nat × Nat × Nat)
  mg : Nat
variable {T : Two}
def Two.v1 (T : Two) (a : Array T.Z) : Array Keyed := a.map fun x => T.f x.1
def Two.v2 (T : Two) (a : Array T.Z) : Array Keyed := a.map fun x => x.1
def Two.S1 (T : Two) (σ : T.St) : SortSt := SortSt.mk' T.kd1 (T.v1 σ.arr) σ.pend σ.mg none
def Two.S2 (T : Two) (σ : T.St) : SortSt := SortSt.mk' T.kd2 (T.v2 σ.arr) σ.pend σ.mg none
def W1 (T : Two) {α : Type} (m : StateT SortSt Sem α) (Q : α → SortSt → Prop) (st : SortSt) : Prop :=
  ∀ p, Sem.wp T.M T.Γ (m.run st) (fun r _ s' => s' = T.s ∧ Q r.1 r.2) (fun e _ s' => T.E e s') p T.s
def W2 (T : Two) {α : Type} (m : StateT SortSt Sem α) (Q : α → SortSt → Shared → Prop) (st : SortSt) (s : Shared) : Prop :=
  ∃ p, Sem.wp T.M T.Γ (m.run st) (fun r _ s' => Q r.1 r.2 s') (fun _ _ _ => False) p s
def Sim (T : Two) {γ α β : Type} (g1 : γ → α) (g2 : γ → β) (m1 : StateT SortSt Sem α) (m2 : StateT SortSt Sem β) : Prop :=
  ∀ (σ : T.St) (Q2 : β → SortSt → Shared → Prop), W2 T m2 Q2 (T.S2 σ) T.s → W1 T m1 (fun a st => ∃ c σ', a = g1 c ∧ st = T.S1 σ' ∧ Q2 (g2 c) (T.S2 σ') T.s) (T.S1 σ)
theorem W1.bind {α β : Type} {m : StateT SortSt Sem α} {k : α → StateT SortSt Sem β} {Q : β → SortSt → Prop} {st : SortSt} (h : W1 T m (fun a st' => W1 T (k a) Q st') st) : W1 T (m >>= k) Q st := by
  intro p
  rw [StateT.run_bind, Sem.wp_bind']
  refine Sem.wp_mono _ _ _ (fun r p' s' h' => ?_) (fun _ _ _ e => e) _ _ (h p)
  obtain ⟨rfl, h'⟩ := h'
  exact h' p'
theorem W1.mono {α : Type} {m : StateT SortSt Sem α} {Q Q' : α → SortSt → Prop} {st : SortSt} (h : W1 T m Q st) (hq : ∀ a st', Q a st' → Q' a st') : W1 T m Q' st := fun p =>
  Sem.wp_mono _ _ _ (fun r p' s' h' => ⟨h'.1, hq _ _ h'.2⟩) (fun _ _ _ e => e) _ _ (h p)
theorem W1.pure {α : Type} {a : α} {Q : α → SortSt → Prop} {st : SortSt} (h : Q a st) : W1 T (pure a : StateT SortSt Sem α) Q st := fun p => by
  rw [StateT.run_pure, Sem.wp_pure']
  exact ⟨rfl, h⟩
theorem W2.pure {α : Type} {a : α} {Q : α → SortSt → Shared → Prop} {st : SortSt} {s : Shared} (h : W2 T (pure a : StateT SortSt Sem α) Q st s) : Q a st s := by
  obtain ⟨p, h⟩ := h
  rw [StateT.run_pure, Sem.wp_pure'] at h
  exact h
theorem W2.bind {α β : Type} {m : StateT SortSt Sem α} {k : α → StateT SortSt Sem β} {Q : β → SortSt → Shared → Prop} {st : SortSt} {s : Shared} (h : W2 T (m >>= k) Q st s) : W2 T m (fun a st' s' => W2 T (k a) Q st' s') st s := by
  obtain ⟨p, h⟩ := h
  rw [StateT.run_bind, Sem.wp_bind'] at h
  exact ⟨p, Sem.wp_mono _ _ _ (fun r p' s' h' => ⟨p', h'⟩) (fun _ _ _ e => e) _ _ h⟩
theorem Sim.bind {γ α β δ α' β' : Type} {g1 : γ → α} {g2 : γ → β} {h1 : δ → α'} {h2 : δ → β'} {m1 : StateT SortSt Sem α} {m2 : StateT SortSt Sem β} {k1 : α → StateT SortSt Sem α'} {k2 : β → StateT SortSt Sem β'}
    (hm : Sim T g1 g2 m1 m2) (hk : ∀ c, Sim T h1 h2 (k1 (g1 c)) (k2 (g2 c))) : Sim T h1 h2 (m1 >>= k1) (m2 >>= k2) := by
  intro σ Q2 h
  refine W1.bind ((hm σ _ h.bind).mono fun a st => ?_)
  rintro ⟨c, σ', rfl, rfl, h'⟩
  exact hk c σ' Q2 h'
theorem Sim.pure {γ α β : Type} {g1 : γ → α} {g2 : γ → β} (c : γ) : Sim T g1 g2 (pure (g1 c)) (pure (g2 c)) := fun σ Q2 h => W1.pure ⟨c, σ, rfl, rfl, h.pure⟩
theorem Sim.get : Sim T T.S1 T.S2 (get : StateT SortSt Sem SortSt) get := fun σ Q2 h => by
  obtain ⟨p, h⟩ := h
  rw [StateT.run_get, Sem.wp_pure'] at h
  intro p
  rw [StateT.run_get, Sem.wp_pure']
  exact ⟨rfl, σ, σ, rfl, rfl, h⟩
theorem Sim.modify {k1 k2 : SortSt → SortSt} (k : T.St → T.St) (e1 : ∀ σ, k1 (T.S1 σ) = T.S1 (k σ)) (e2 : ∀ σ, k2 (T.S2 σ) = T.S2 (k σ)) : Sim T id id (modify k1 : StateT SortSt Sem PUnit) (modify k2 : StateT SortSt Sem PUnit) := fun σ Q2 h => by
  obtain ⟨p, h⟩ := h
  rw [StateT.run_modify, Sem.wp_pure'] at h
  intro p
  rw [StateT.run_modify, Sem.wp_pure']
  refine ⟨rfl, ⟨⟩, k σ, rfl, e1 σ, ?_⟩
  rw [← e2]
  exact h
theorem Sim.unsup {γ α β : Type} {g1 : γ → α} {g2 : γ → β} {m1 : StateT SortSt Sem α} {w : String} : Sim T g1 g2 m1 (unsupported w : StateT SortSt Sem β) := fun σ Q2 h => by
  obtain ⟨p, h⟩ := h
  exact absurd h (by intro h; exact h.elim)
theorem Sim.rule {tag : String} : Sim T id id (rule tag : StateT SortSt Sem Unit) (rule tag : StateT SortSt Sem Unit) := fun σ Q2 h => by
  obtain ⟨p, h⟩ := h
  intro p
  exact ⟨rfl, (), σ, rfl, rfl, h⟩
theorem Sim.ite {γ α β : Type} {g1 : γ → α} {g2 : γ → β} {m1 n1 : StateT SortSt Sem α} {m2 n2 : StateT SortSt Sem β} {P : Prop} [Decidable P] (hm : P → Sim T g1 g2 m1 m2) (hn : ¬ P → Sim T g1 g2 n1 n2) :
    Sim T g1 g2 (if P then m1 else n1) (if P then m2 else n2) := by
  by_cases h : P
  · rw [if_pos h, if_pos h]; exact hm h
  · rw [if_neg h, if_neg h]; exact hn h
def stp {γ α : Type} (g : γ → α) : ForInStep γ → ForInStep α
  | .done c => .done (g c)
  | .yield c => .yield (g c)
theorem Sim.forL {γ α β : Type} {g1 : γ → α} {g2 : γ → β} {k1 : Nat → α → StateT SortSt Sem (ForInStep α)} {k2 : Nat → β → StateT SortSt Sem (ForInStep β)}
    (hk : ∀ i c, Sim T (stp g1) (stp g2) (k1 i (g1 c)) (k2 i (g2 c))) : ∀ (l : List Nat) (c : γ), Sim T g1 g2 (forIn l (g1 c) k1) (forIn l (g2 c) k2)
  | [], c => by rw [List.forIn_nil, List.forIn_nil]; exact Sim.pure c
  | i :: l, c => by
    rw [List.forIn_cons, List.forIn_cons]
    refine Sim.bind (hk i c) fun r => ?_
    cases r with
    | done c => exact Sim.pure c
    | yield c => exact Sim.forL hk l c
theorem Sim.forR {γ α β : Type} {g1 : γ → α} {g2 : γ → β} {k1 : Nat → α → StateT SortSt Sem (ForInStep α)} {k2 : Nat → β → StateT SortSt Sem (ForInStep β)} {a b : Nat} (c : γ)
    (hk : ∀ i c, Sim T (stp g1) (stp g2) (k1 i (g1 c)) (k2 i (g2 c))) : Sim T g1 g2 (forIn [a:b] (g1 c) k1) (forIn [a:b] (g2 c) k2) := by
  rw [Std.Legacy.Range.forIn_eq_forIn_range', Std.Legacy.Range.forIn_eq_forIn_range']
  exact Sim.forL hk _ c
end PyProof.Rows.Sm
set_option Elab.async false
set_option linter.all false
namespace PyProof.Rows.Sm
open PySem
set_option autoImplicit false
variable {T : Two}
def Alike (T : Two) : Prop := ∀ x y : T.Z, ∃ b : Bool, (∀ p, Sem.wp T.M T.Γ (keyLt' T.kd1 (T.f x.1).1 (T.f y.1).1) (fun r _ s' => r = b ∧ s' = T.s) (fun _ _ _ => False) p T.s) ∧
  ∀ p, Sem.wp T.M T.Γ (keyLt' T.kd2 x.1.1 y.1.1) (fun r _ s' => r = b ∧ s' = T.s) (fun _ _ _ => False) p T.s
theorem Sim.lift {β : Type} {t1 t2 : Sem β} {b : β} (h1 : ∀ p, Sem.wp T.M T.Γ t1 (fun r _ s' => r = b ∧ s' = T.s) (fun _ _ _ => False) p T.s)
    (h2 : ∀ p, Sem.wp T.M T.Γ t2 (fun r _ s' => r = b ∧ s' = T.s) (fun _ _ _ => False) p T.s) : Sim T (fun _ : Unit => b) (fun _ : Unit => b) (StateT.lift t1 : StateT SortSt Sem β) (StateT.lift t2) := fun σ Q2 h => by
  obtain ⟨p, h⟩ := h
  have h : Sem.wp T.M T.Γ (t2 >>= fun a => Pure.pure (a, T.S2 σ)) (fun r _ s' => Q2 r.1 r.2 s') (fun _ _ _ => False) p T.s := h
  rw [Sem.wp_bind'] at h
  have q : Q2 b (T.S2 σ) T.s := by
    rcases wp_meet h (h2 p) with ⟨a, p', s', ha, rfl, rfl⟩ | ⟨_, _, _, z, _⟩
    · rw [Sem.wp_pure'] at ha
      exact ha
    · exact z.elim
  intro p
  show Sem.wp T.M T.Γ (t1 >>= fun a => Pure.pure (a, T.S1 σ)) _ _ p T.s
  rw [Sem.wp_bind']
  refine Sem.wp_mono _ _ _ (fun r p' s' h' => ?_) (fun _ _ _ e => e.elim) _ _ (h1 p)
  obtain ⟨rfl, rfl⟩ := h'
  rw [Sem.wp_pure']
  exact ⟨rfl, (), σ, rfl, rfl, q⟩
theorem Sim.lt (al : Alike T) (x y : T.Z) : ∃ b : Bool, Sim T (fun _ : Unit => some b) (fun _ : Unit => some b) (lt' (T.f x.1) (T.f y.1)) (lt' x.1 y.1) := by
  obtain ⟨b, h1, h2⟩ := al x y
  refine ⟨b, ?_⟩
  rw [lt'_eq, lt'_eq]
  refine Sim.bind Sim.get fun σ => ?_
  refine Sim.bind (g1 := fun _ : Unit => Except.ok b) (g2 := fun _ : Unit => Except.ok b) (Sim.lift (t1 := (keyLt' T.kd1 (T.f x.1).1 (T.f y.1).1).attempt) (t2 := (keyLt' T.kd2 x.1.1 y.1.1).attempt) (b := Except.ok b) (fun p => ?_) (fun p => ?_)) fun c => ?_
  · rw [Sem.wp_attempt]
    exact Sem.wp_mono _ _ _ (fun r p' s' h' => ⟨by rw [h'.1], h'.2⟩) (fun _ _ _ e => e.elim) _ _ (h1 p)
  · rw [Sem.wp_attempt]
    exact Sem.wp_mono _ _ _ (fun r p' s' h' => ⟨by rw [h'.1], h'.2⟩) (fun _ _ _ e => e.elim) _ _ (h2 p)
  · exact Sim.pure ()
theorem Sim.weak {γ δ α β : Type} {g1 : γ → α} {g2 : γ → β} {h1 : δ → α} {h2 : δ → β} {m1 : StateT SortSt Sem α} {m2 : StateT SortSt Sem β} (h : Sim T g1 g2 m1 m2) (k : γ → δ) (e1 : ∀ c, g1 c = h1 (k c)) (e2 : ∀ c, g2 c = h2 (k c)) : Sim T h1 h2 m1 m2 := fun σ Q2 h' =>
  (h σ Q2 h').mono fun a st ⟨c, σ', ea, es, q⟩ => ⟨k c, σ', by rw [ea, e1], es, by rw [← e2]; exact q⟩
theorem Sim.lt' (al : Alike T) (x y : T.Z) : Sim T (id : Option Bool → Option Bool) id (PyProof.Rows.lt' (T.f x.1) (T.f y.1)) (PyProof.Rows.lt' x.1 y.1) := by
  obtain ⟨b, h⟩ := Sim.lt al x y
  exact h.weak (fun _ => some b) (fun _ => rfl) (fun _ => rfl)
theorem Sim.elem (a : Array T.Z) (i : Nat) : Sim T (fun x : T.Z => T.f x.1) (fun x : T.Z => x.1) (elem' (T.v1 a) i) (elem' (T.v2 a) i) := by
  rw [elem'_eq, elem'_eq]
  unfold Two.v1 Two.v2
  rw [Array.getElem?_map, Array.getElem?_map]
  cases a[i]? with
  | none => exact Sim.unsup
  | some x => exact Sim.pure (g1 := fun x : T.Z => T.f x.1) (g2 := fun x : T.Z => x.1) x
theorem Sim.ltAt (al : Alike T) (i j : Nat) : Sim T (id : Option Bool → Option Bool) id (ltAt' i j) (ltAt' i j) := by
  rw [ltAt'_eq]
  refine Sim.bind Sim.get fun σ => ?_
  refine Sim.bind (Sim.elem σ.arr i) fun x => Sim.bind (Sim.elem σ.arr j) fun y => Sim.lt' al x y
theorem swapIB_map {α β : Type} (f : α → β) (xs : Array α) (i j : Nat) : (xs.map f).swapIfInBounds i j = (xs.swapIfInBounds i j).map f := by
  rw [Array.swapIfInBounds_def, Array.swapIfInBounds_def]
  by_cases hi : i < xs.size
  · by_cases hj : j < xs.size
    · rw [dif_pos (by rw [Array.size_map]; exact hi), dif_pos (by rw [Array.size_map]; exact hj), dif_pos hi, dif_pos hj]
      ext k h1 h2
      · simp
      · simp only [Array.getElem_map, Array.getElem_swap]
        split
        · rfl
        · split
          · rfl
          · rfl
    · rw [dif_pos (by rw [Array.size_map]; exact hi), dif_neg (by rw [Array.size_map]; exact hj), dif_pos hi, dif_neg hj]
  · rw [dif_neg (by rw [Array.size_map]; exact hi), dif_neg hi]
theorem foldSw_map {α β δ : Type} (f : α → β) (p q : δ → Nat) : ∀ (l : List δ) (xs : Array α), l.foldl (fun a k => a.swapIfInBounds (p k) (q k)) (xs.map f) = (l.foldl (fun a k => a.swapIfInBounds (p k) (q k)) xs).map f
  | [], xs => rfl
  | k :: l, xs => by rw [List.foldl_cons, List.foldl_cons, swapIB_map, foldSw_map f p q l]
theorem Sim.rev (i j : Nat) : Sim T id id (reverseSlice' i j) (reverseSlice' i j) := by
  rw [reverseSlice'_eq]
  refine Sim.modify (fun σ => { σ with arr := mirror σ.arr i j ((j - i) / 2) }) (fun σ => ?_) (fun σ => ?_) <;>
    (simp only [Two.S1, Two.S2, setArr, Two.v1, Two.v2, mirror]; rw [← foldSw_map])
theorem Sim.down (i j : Nat) : Sim T id id (moveDown' i j) (moveDown' i j) := by
  rw [moveDown'_eq]
  refine Sim.modify (fun σ => { σ with arr := bubble σ.arr i (i - j) }) (fun σ => ?_) (fun σ => ?_) <;>
    (simp only [Two.S1, Two.S2, setArr, Two.v1, Two.v2, bubble]; rw [← foldSw_map])
end PyProof.Rows.Sm
set_option Elab.async false
set_option linter.all false
namespace PyProof.Rows.Sm
open PySem
set_option autoImplicit false
variable {T : Two}
def Self (T : Two) {α : Type} (m : StateT SortSt Sem α) : Prop := Sim T (id : α → α) id m m
theorem Self.bind {α β : Type} {m : StateT SortSt Sem α} {k : α → StateT SortSt Sem β} (hm : Self T m) (hk : ∀ c, Self T (k c)) : Self T (m >>= k) := Sim.bind hm hk
theorem Self.pure {α : Type} (a : α) : Self T (pure a : StateT SortSt Sem α) := Sim.pure (g1 := id) (g2 := id) a
theorem Self.ite {α : Type} {P : Prop} [Decidable P] {m n : StateT SortSt Sem α} (hm : Self T m) (hn : Self T n) : Self T (if P then m else n) := Sim.ite (fun _ => hm) fun _ => hn
theorem Self.forR {α : Type} {k : Nat → α → StateT SortSt Sem (ForInStep α)} {a b : Nat} {c : α} (hk : ∀ i c, Self T (k i c)) : Self T (forIn [a:b] c k) :=
  Sim.forR (g1 := id) (g2 := id) c fun i c => (hk i c).weak id (fun r => by cases r <;> rfl) fun r => by cases r <;> rfl
theorem Self.rule {tag : String} : Self T (liftM (rule tag) : StateT SortSt Sem Unit) := Sim.rule
theorem Self.rev (i j : Nat) : Self T (reverseSlice' i j) := Sim.rev i j
theorem Self.down (i j : Nat) : Self T (moveDown' i j) := Sim.down i j
theorem Self.ltAt (al : Alike T) (i j : Nat) : Self T (ltAt' i j) := Sim.ltAt al i j
theorem Self.binary (al : Alike T) (lo n ok : Nat) : Self T (binarySort' lo n ok) := by
  rw [binarySort'_eq]
  repeat' (first
    | exact Self.pure _ | exact Self.rule | exact Self.ltAt al _ _ | exact Self.rev _ _ | exact Self.down _ _
    | refine Self.bind ?_ fun _ => ?_
    | refine Self.forR fun _ _ => ?_
    | refine Self.ite ?_ ?_
    | split
    | dsimp only)
theorem Self.count (al : Alike T) (lo nrem : Nat) : Self T (countRun' lo nrem) := by
  rw [countRun'_eq]
  repeat' (first
    | exact Self.pure _ | exact Self.rule | exact Self.ltAt al _ _ | exact Self.rev _ _ | exact Self.down _ _
    | refine Self.bind ?_ fun _ => ?_
    | refine Self.forR fun _ _ => ?_
    | refine Self.ite ?_ ?_
    | split
    | dsimp only)
end PyProof.Rows.Sm
set_option Elab.async false
set_option linter.all false
namespace PyProof.Rows.Sm
open PySem
set_option autoImplicit false
variable {T : Two}
class Rel (T : Two) (α : Type) where
  rel : α → α → Prop
open Rel (rel)
instance : Rel T Nat := ⟨Eq⟩
instance : Rel T Bool := ⟨Eq⟩
instance : Rel T Unit := ⟨Eq⟩
instance : Rel T (Array (Nat × Nat × Nat)) := ⟨Eq⟩
instance instK : Rel T Keyed := ⟨fun a b => ∃ z : T.Z, a = T.f z.1 ∧ b = z.1⟩
instance instA : Rel T (Array Keyed) := ⟨fun a b => ∃ z : Array T.Z, a = T.v1 z ∧ b = T.v2 z⟩
inductive ROpt {α : Type} (r : α → α → Prop) : Option α → Option α → Prop
  | none : ROpt r none none
  | some {a b : α} : r a b → ROpt r (some a) (some b)
inductive RPair {α β : Type} (r : α → α → Prop) (q : β → β → Prop) : α × β → α × β → Prop
  | mk {a b : α} {c d : β} : r a b → q c d → RPair r q (a, c) (b, d)
inductive RStep {α : Type} (r : α → α → Prop) : ForInStep α → ForInStep α → Prop
  | done {a b : α} : r a b → RStep r (.done a) (.done b)
  | yield {a b : α} : r a b → RStep r (.yield a) (.yield b)
instance {α : Type} [Rel T α] : Rel T (Option α) := ⟨ROpt (rel T)⟩
instance instP {α β : Type} [Rel T α] [Rel T β] : Rel T (α × β) := ⟨RPair (rel T) (rel T)⟩
instance {α : Type} [Rel T α] : Rel T (ForInStep α) := ⟨RStep (rel T)⟩
structure Sir (T : Two) {α : Type} [Rel T α] (m1 m2 : StateT SortSt Sem α) : Prop where
  run : ∀ (σ : T.St) (Q2 : α → SortSt → Shared → Prop), W2 T m2 Q2 (T.S2 σ) T.s → W1 T m1 (fun a st => ∃ b σ', rel T a b ∧ st = T.S1 σ' ∧ Q2 b (T.S2 σ') T.s) (T.S1 σ)
theorem Sir.bind {α β : Type} [Rel T α] [Rel T β] {m1 m2 : StateT SortSt Sem α} {k1 k2 : α → StateT SortSt Sem β} (hm : Sir T m1 m2) (hk : ∀ a b, rel T a b → Sir T (k1 a) (k2 b)) : Sir T (m1 >>= k1) (m2 >>= k2) := by
  refine ⟨fun σ Q2 h => ?_⟩
  refine W1.bind ((hm.run σ _ h.bind).mono fun a st => ?_)
  rintro ⟨b, σ', hab, rfl, h'⟩
  exact (hk a b hab).run σ' Q2 h'
theorem Sir.pure {α : Type} [Rel T α] {a b : α} (h : rel T a b) : Sir T (pure a) (pure b) := ⟨fun σ Q2 q => W1.pure ⟨b, σ, h, rfl, q.pure⟩⟩
theorem Sir.ite {α : Type} [Rel T α] {P : Prop} [Decidable P] {m1 n1 m2 n2 : StateT SortSt Sem α} (hm : Sir T m1 m2) (hn : Sir T n1 n2) : Sir T (if P then m1 else n1) (if P then m2 else n2) := by
  by_cases h : P
  · rw [if_pos h, if_pos h]; exact hm
  · rw [if_neg h, if_neg h]; exact hn
theorem Sir.getb {β : Type} [Rel T β] {k1 k2 : SortSt → StateT SortSt Sem β} (hk : ∀ σ, Sir T (k1 (T.S1 σ)) (k2 (T.S2 σ))) : Sir T (get >>= k1) (get >>= k2) := by
  refine ⟨fun σ Q2 h => ?_⟩
  refine W1.bind ((Sim.get σ _ h.bind).mono fun a st => ?_)
  rintro ⟨c, σ', rfl, rfl, h'⟩
  exact (hk c).run σ' Q2 h'
theorem Sir.forL {α : Type} [Rel T α] {k1 k2 : Nat → α → StateT SortSt Sem (ForInStep α)} (hk : ∀ i a b, rel T a b → Sir T (k1 i a) (k2 i b)) : ∀ (l : List Nat) (a b : α), rel T a b → Sir T (forIn l a k1) (forIn l b k2)
  | [], a, b, h => by rw [List.forIn_nil, List.forIn_nil]; exact Sir.pure h
  | i :: l, a, b, h => by
    rw [List.forIn_cons, List.forIn_cons]
    refine Sir.bind (hk i a b h) fun r r' hr => ?_
    cases hr with
    | done h => exact Sir.pure h
    | yield h => exact Sir.forL hk l _ _ h
theorem Sir.forR {α : Type} [Rel T α] {k1 k2 : Nat → α → StateT SortSt Sem (ForInStep α)} {i j : Nat} {a b : α} (h : rel T a b) (hk : ∀ i a b, rel T a b → Sir T (k1 i a) (k2 i b)) : Sir T (forIn [i:j] a k1) (forIn [i:j] b k2) := by
  rw [Std.Legacy.Range.forIn_eq_forIn_range', Std.Legacy.Range.forIn_eq_forIn_range']
  exact Sir.forL hk _ a b h
theorem Sir.of {γ α : Type} [Rel T α] {g1 g2 : γ → α} {m1 m2 : StateT SortSt Sem α} (h : Sim T g1 g2 m1 m2) (hr : ∀ c, rel T (g1 c) (g2 c)) : Sir T m1 m2 := ⟨fun σ Q2 q =>
  (h σ Q2 q).mono fun a st ⟨c, σ', ea, es, q⟩ => ⟨g2 c, σ', by rw [ea]; exact hr c, es, q⟩⟩
theorem Sir.unsup {α : Type} [Rel T α] {m1 : StateT SortSt Sem α} {w : String} : Sir T m1 (unsupported w : StateT SortSt Sem α) := ⟨fun σ Q2 h => by
  obtain ⟨p, h⟩ := h
  exact absurd h (by intro h; exact h.elim)⟩
theorem ropt_refl : ∀ o : Option Bool, rel T o o
  | none => .none
  | some b => .some rfl
theorem Sir.lt (al : Alike T) {x1 x2 y1 y2 : Keyed} (hx : rel T x1 x2) (hy : rel T y1 y2) : Sir T (lt' x1 y1) (lt' x2 y2) := by
  obtain ⟨x, rfl, rfl⟩ := hx
  obtain ⟨y, rfl, rfl⟩ := hy
  exact Sir.of (Sim.lt' al x y) ropt_refl
theorem Sir.elem {a1 a2 : Array Keyed} (h : rel T a1 a2) (i : Nat) : Sir T (elem' a1 i) (elem' a2 i) := by
  obtain ⟨z, rfl, rfl⟩ := h
  exact Sir.of (Sim.elem z i) fun c => ⟨c, rfl, rfl⟩
theorem Sir.beyond (al : Alike T) {left : Bool} {x1 x2 : Keyed} {a1 a2 : Array Keyed} (hx : rel T x1 x2) (h : rel T a1 a2) (base i : Nat) : Sir T (beyond' left x1 a1 base i) (beyond' left x2 a2 base i) := by
  unfold beyond'
  refine Sir.bind (Sir.elem h _) fun u v hu => ?_
  refine Sir.ite (Sir.lt al hu hx) (Sir.bind (Sir.lt al hx hu) fun a b hab => Sir.pure ?_)
  cases hab with
  | none => exact .none
  | some h => cases h; exact .some rfl
end PyProof.Rows.Sm
set_option Elab.async false
set_option linter.all false
namespace PyProof.Rows.Sm
open PySem
open Rel (rel)
set_option autoImplicit false
variable {T : Two}
class EqR (T : Two) (α : Type) [Rel T α] : Prop where
  eq : ∀ a b : α, rel T a b ↔ a = b
instance : EqR T Nat := ⟨fun _ _ => Iff.rfl⟩
instance : EqR T Bool := ⟨fun _ _ => Iff.rfl⟩
instance : EqR T Unit := ⟨fun _ _ => Iff.rfl⟩
instance : EqR T (Array (Nat × Nat × Nat)) := ⟨fun _ _ => Iff.rfl⟩
instance {α : Type} [Rel T α] [EqR T α] : EqR T (Option α) := ⟨fun a b => ⟨fun h => by
  cases h with
  | none => rfl
  | some h => rw [(EqR.eq _ _).mp h], fun h => by
  subst h
  cases a with
  | none => exact .none
  | some a => exact .some ((EqR.eq a a).mpr rfl)⟩⟩
instance {α β : Type} [Rel T α] [EqR T α] [Rel T β] [EqR T β] : EqR T (α × β) := ⟨fun a b => ⟨fun h => by
  cases h with
  | mk h1 h2 => rw [(EqR.eq _ _).mp h1, (EqR.eq _ _).mp h2], fun h => by
  subst h
  exact .mk ((EqR.eq _ _).mpr rfl) ((EqR.eq _ _).mpr rfl)⟩⟩
instance {α : Type} [Rel T α] [EqR T α] : EqR T (ForInStep α) := ⟨fun a b => ⟨fun h => by
  cases h with
  | done h => rw [(EqR.eq _ _).mp h]
  | yield h => rw [(EqR.eq _ _).mp h], fun h => by
  subst h
  cases a with
  | done a => exact .done ((EqR.eq a a).mpr rfl)
  | yield a => exact .yield ((EqR.eq a a).mpr rfl)⟩⟩
theorem Sir.bindE {α β : Type} [Rel T α] [EqR T α] [Rel T β] {m1 m2 : StateT SortSt Sem α} {k1 k2 : α → StateT SortSt Sem β} (hm : Sir T m1 m2) (hk : ∀ a, Sir T (k1 a) (k2 a)) : Sir T (m1 >>= k1) (m2 >>= k2) :=
  Sir.bind hm fun a b h => by rw [(EqR.eq a b).mp h]; exact hk b
theorem Sir.pureE {α : Type} [Rel T α] [EqR T α] (a : α) : Sir T (Pure.pure a) (Pure.pure a) := Sir.pure ((EqR.eq a a).mpr rfl)
theorem Sir.forE {α : Type} [Rel T α] [EqR T α] {k1 k2 : Nat → α → StateT SortSt Sem (ForInStep α)} {i j : Nat} {a : α} (hk : ∀ i a, Sir T (k1 i a) (k2 i a)) : Sir T (forIn [i:j] a k1) (forIn [i:j] a k2) :=
  Sir.forR ((EqR.eq a a).mpr rfl) fun i a b h => by rw [(EqR.eq a b).mp h]; exact hk i b
theorem Sir.self {α : Type} [Rel T α] [EqR T α] {m : StateT SortSt Sem α} (h : Self T m) : Sir T m m := Sir.of h fun c => (EqR.eq c c).mpr rfl
theorem Sir.gallop (al : Alike T) {left : Bool} {x1 x2 : Keyed} {a1 a2 : Array Keyed} (hx : rel T x1 x2) (h : rel T a1 a2) (base n hint : Nat) : Sir T (gallop' left x1 a1 base n hint) (gallop' left x2 a2 base n hint) := by
  rw [gallop'_eq, gallop'_eq]
  repeat' (first
    | exact Sir.pureE _
    | exact Sir.beyond al hx h _ _
    | refine Sir.bindE ?_ fun _ => ?_
    | refine Sir.forE fun _ _ => ?_
    | refine Sir.ite ?_ ?_
    | split
    | dsimp only)
end PyProof.Rows.Sm
set_option Elab.async false
set_option linter.all false
set_option maxHeartbeats 4000000
set_option maxRecDepth 100000
namespace PyProof.Rows.Sm
open PySem
open Rel (rel)
set_option autoImplicit false
variable {T : Two}
theorem Sir.setMG (g : Nat) : Sir T (setMinGallop' g) (setMinGallop' g) := by
  rw [setMinGallop'_eq]
  exact Sir.self (Sim.modify (fun σ => { σ with mg := g }) (fun σ => rfl) (fun σ => rfl))
theorem rA.size {a b : Array Keyed} (h : rel T a b) : a.size = b.size := by
  obtain ⟨z, rfl, rfl⟩ := h
  simp [Two.v1, Two.v2]
theorem rA.push {a b : Array Keyed} {x y : Keyed} (h : rel T a b) (hx : rel T x y) : rel T (a.push x) (b.push y) := by
  obtain ⟨z, rfl, rfl⟩ := h
  obtain ⟨x, rfl, rfl⟩ := hx
  exact ⟨z.push x, by simp [Two.v1], by simp [Two.v2]⟩
theorem rA.app {a b c d : Array Keyed} (h : rel T a b) (h' : rel T c d) : rel T (a ++ c) (b ++ d) := by
  obtain ⟨z, rfl, rfl⟩ := h
  obtain ⟨x, rfl, rfl⟩ := h'
  exact ⟨z ++ x, by simp [Two.v1], by simp [Two.v2]⟩
theorem rA.ext {a b : Array Keyed} (h : rel T a b) (i j : Nat) : rel T (a.extract i j) (b.extract i j) := by
  obtain ⟨z, rfl, rfl⟩ := h
  exact ⟨z.extract i j, by simp [Two.v1], by simp [Two.v2]⟩
theorem rA.rv {a b : Array Keyed} (h : rel T a b) : rel T a.reverse b.reverse := by
  obtain ⟨z, rfl, rfl⟩ := h
  exact ⟨z.reverse, by simp [Two.v1], by simp [Two.v2]⟩
theorem rA.one {x y : Keyed} (hx : rel T x y) : rel T #[x] #[y] := by
  obtain ⟨x, rfl, rfl⟩ := hx
  exact ⟨#[x], by simp [Two.v1], by simp [Two.v2]⟩
theorem rN (n : Nat) : rel T n n := rfl
theorem rO : rel T (none : Option (Array Keyed)) none := .none
theorem rO' {x y : Array Keyed} (h : rel T x y) : rel T (some x) (some y) := .some h
theorem rD {α : Type} [Rel T α] {x y : α} (h : rel T x y) : rel T (ForInStep.done x) (ForInStep.done y) := .done h
theorem rY {α : Type} [Rel T α] {x y : α} (h : rel T x y) : rel T (ForInStep.yield x) (ForInStep.yield y) := .yield h
theorem rP {α β : Type} [Rel T α] [Rel T β] {x y : α} {u v : β} (h : rel T x y) (h' : rel T u v) : rel T (x, u) (y, v) := .mk h h'
theorem Sir.mergeLo (al : Alike T) {a1 a2 b1 b2 : Array Keyed} (ha : rel T a1 a2) (hb : rel T b1 b2) : Sir T (mergeLo' a1 b1) (mergeLo' a2 b2) := by
  rw [mergeLo'_eq, mergeLo'_eq]
  refine Sir.bindE (Sir.self Self.rule) fun _ => ?_
  refine Sir.bind (Sir.elem hb 0) fun x y hx => ?_
  dsimp only
  rw [rA.size ha, rA.size hb]
  refine Sir.ite ?_ ?_
  · ((with_reducible refine Sir.pure ?_) <;> ((repeat' (with_reducible first   | assumption   | exact rN _   | exact rO   | refine rD ?_   | refine rY ?_   | refine rO' ?_   | refine rP ?_ ?_   | refine rA.push ?_ ?_   | refine rA.app ?_ ?_   | refine rA.ext ?_ _ _   | refine rA.rv ?_   | refine rA.one ?_)); done))
  refine Sir.ite ?_ ?_
  · ((with_reducible refine Sir.pure ?_) <;> ((repeat' (with_reducible first   | assumption   | exact rN _   | exact rO   | refine rD ?_   | refine rY ?_   | refine rO' ?_   | refine rP ?_ ?_   | refine rA.push ?_ ?_   | refine rA.app ?_ ?_   | refine rA.ext ?_ _ _   | refine rA.rv ?_   | refine rA.one ?_)); done))
  refine Sir.getb fun σ => ?_
  rw [show gallopOf (T.S1 σ) = gallopOf (T.S2 σ) from rfl]
  refine Sir.bind (Sir.forR ?_ ?_) ?_
  · repeat' (with_reducible first   | assumption   | exact rN _   | exact rO   | refine rD ?_   | refine rY ?_   | refine rO' ?_   | refine rP ?_ ?_   | refine rA.push ?_ ?_   | refine rA.app ?_ ?_   | refine rA.ext ?_ _ _   | refine rA.rv ?_   | refine rA.one ?_)
  · rintro _ _ _ ⟨_, ⟨_, ⟨⟨⟩, ⟨⟨⟩, ⟨⟩⟩⟩⟩⟩
    dsimp only
    refine Sir.bind (Sir.forR ?_ ?_) ?_
    · repeat' (with_reducible first   | assumption   | exact rN _   | exact rO   | refine rD ?_   | refine rY ?_   | refine rO' ?_   | refine rP ?_ ?_   | refine rA.push ?_ ?_   | refine rA.app ?_ ?_   | refine rA.ext ?_ _ _   | refine rA.rv ?_   | refine rA.one ?_)
    · rintro _ _ _ ⟨_, ⟨_, ⟨⟨⟩, ⟨⟨⟩, ⟨⟨⟩, ⟨⟩⟩⟩⟩⟩⟩
      dsimp only
      repeat' (first
        | ((with_reducible refine Sir.pure ?_) <;> ((repeat' (with_reducible first   | assumption   | exact rN _   | exact rO   | refine rD ?_   | refine rY ?_   | refine rO' ?_   | refine rP ?_ ?_   | refine rA.push ?_ ?_   | refine rA.app ?_ ?_   | refine rA.ext ?_ _ _   | refine rA.rv ?_   | refine rA.one ?_)); done))
        | with_reducible exact Sir.elem ha _
        | with_reducible exact Sir.elem hb _
        | with_reducible exact Sir.lt al (by assumption) (by assumption)
        | with_reducible exact Sir.gallop al (by assumption) ha _ _ _
        | with_reducible exact Sir.gallop al (by assumption) hb _ _ _
        | with_reducible refine Sir.ite ?_ ?_
        | with_reducible refine Sir.bind (Sir.elem ha _) fun _ _ _ => ?_
        | with_reducible refine Sir.bind (Sir.elem hb _) fun _ _ _ => ?_
        | (with_reducible refine Sir.bindE (Sir.lt al (by assumption) (by assumption)) ?_); rintro (_ | _)
        | (with_reducible refine Sir.bindE (Sir.gallop al (by assumption) ha _ _ _) ?_); rintro (_ | _)
        | (with_reducible refine Sir.bindE (Sir.gallop al (by assumption) hb _ _ _) ?_); rintro (_ | _)
        | (with_reducible refine Sir.bindE (Sir.setMG _) fun _ => ?_)
        | dsimp only)
    · rintro _ _ ⟨h, ⟨_, ⟨⟨⟩, ⟨⟨⟩, ⟨⟨⟩, ⟨⟩⟩⟩⟩⟩⟩
      rcases h with _ | h
      · dsimp only
        refine Sir.bindE (Sir.self Self.rule) fun _ => ?_
        refine Sir.bind (Sir.forR ?_ ?_) ?_
        · repeat' (with_reducible first   | assumption   | exact rN _   | exact rO   | refine rD ?_   | refine rY ?_   | refine rO' ?_   | refine rP ?_ ?_   | refine rA.push ?_ ?_   | refine rA.app ?_ ?_   | refine rA.ext ?_ _ _   | refine rA.rv ?_   | refine rA.one ?_)
        · rintro _ _ _ ⟨_, ⟨_, ⟨⟨⟩, ⟨⟨⟩, ⟨⟨⟩, ⟨⟨⟩, ⟨⟩⟩⟩⟩⟩⟩⟩
          dsimp only
          repeat' (first
            | ((with_reducible refine Sir.pure ?_) <;> ((repeat' (with_reducible first   | assumption   | exact rN _   | exact rO   | refine rD ?_   | refine rY ?_   | refine rO' ?_   | refine rP ?_ ?_   | refine rA.push ?_ ?_   | refine rA.app ?_ ?_   | refine rA.ext ?_ _ _   | refine rA.rv ?_   | refine rA.one ?_)); done))
            | with_reducible exact Sir.elem ha _
            | with_reducible exact Sir.elem hb _
            | with_reducible exact Sir.lt al (by assumption) (by assumption)
            | with_reducible exact Sir.gallop al (by assumption) ha _ _ _
            | with_reducible exact Sir.gallop al (by assumption) hb _ _ _
            | with_reducible refine Sir.ite ?_ ?_
            | with_reducible refine Sir.bind (Sir.elem ha _) fun _ _ _ => ?_
            | with_reducible refine Sir.bind (Sir.elem hb _) fun _ _ _ => ?_
            | (with_reducible refine Sir.bindE (Sir.lt al (by assumption) (by assumption)) ?_); rintro (_ | _)
            | (with_reducible refine Sir.bindE (Sir.gallop al (by assumption) ha _ _ _) ?_); rintro (_ | _)
            | (with_reducible refine Sir.bindE (Sir.gallop al (by assumption) hb _ _ _) ?_); rintro (_ | _)
            | (with_reducible refine Sir.bindE (Sir.setMG _) fun _ => ?_)
            | dsimp only)
        · rintro _ _ ⟨h, ⟨_, ⟨⟨⟩, ⟨⟨⟩, ⟨⟨⟩, ⟨⟨⟩, ⟨⟩⟩⟩⟩⟩⟩⟩
          rcases h with _ | h
          · dsimp only
            repeat' (first
              | ((with_reducible refine Sir.pure ?_) <;> ((repeat' (with_reducible first   | assumption   | exact rN _   | exact rO   | refine rD ?_   | refine rY ?_   | refine rO' ?_   | refine rP ?_ ?_   | refine rA.push ?_ ?_   | refine rA.app ?_ ?_   | refine rA.ext ?_ _ _   | refine rA.rv ?_   | refine rA.one ?_)); done))
              | with_reducible exact Sir.elem ha _
              | with_reducible exact Sir.elem hb _
              | with_reducible exact Sir.lt al (by assumption) (by assumption)
              | with_reducible exact Sir.gallop al (by assumption) ha _ _ _
              | with_reducible exact Sir.gallop al (by assumption) hb _ _ _
              | with_reducible refine Sir.ite ?_ ?_
              | with_reducible refine Sir.bind (Sir.elem ha _) fun _ _ _ => ?_
              | with_reducible refine Sir.bind (Sir.elem hb _) fun _ _ _ => ?_
              | (with_reducible refine Sir.bindE (Sir.lt al (by assumption) (by assumption)) ?_); rintro (_ | _)
              | (with_reducible refine Sir.bindE (Sir.gallop al (by assumption) ha _ _ _) ?_); rintro (_ | _)
              | (with_reducible refine Sir.bindE (Sir.gallop al (by assumption) hb _ _ _) ?_); rintro (_ | _)
              | (with_reducible refine Sir.bindE (Sir.setMG _) fun _ => ?_)
              | dsimp only)
          · dsimp only
            repeat' (first
              | ((with_reducible refine Sir.pure ?_) <;> ((repeat' (with_reducible first   | assumption   | exact rN _   | exact rO   | refine rD ?_   | refine rY ?_   | refine rO' ?_   | refine rP ?_ ?_   | refine rA.push ?_ ?_   | refine rA.app ?_ ?_   | refine rA.ext ?_ _ _   | refine rA.rv ?_   | refine rA.one ?_)); done))
              | with_reducible exact Sir.elem ha _
              | with_reducible exact Sir.elem hb _
              | with_reducible exact Sir.lt al (by assumption) (by assumption)
              | with_reducible exact Sir.gallop al (by assumption) ha _ _ _
              | with_reducible exact Sir.gallop al (by assumption) hb _ _ _
              | with_reducible refine Sir.ite ?_ ?_
              | with_reducible refine Sir.bind (Sir.elem ha _) fun _ _ _ => ?_
              | with_reducible refine Sir.bind (Sir.elem hb _) fun _ _ _ => ?_
              | (with_reducible refine Sir.bindE (Sir.lt al (by assumption) (by assumption)) ?_); rintro (_ | _)
              | (with_reducible refine Sir.bindE (Sir.gallop al (by assumption) ha _ _ _) ?_); rintro (_ | _)
              | (with_reducible refine Sir.bindE (Sir.gallop al (by assumption) hb _ _ _) ?_); rintro (_ | _)
              | (with_reducible refine Sir.bindE (Sir.setMG _) fun _ => ?_)
              | dsimp only)
      · dsimp only
        repeat' (first
          | ((with_reducible refine Sir.pure ?_) <;> ((repeat' (with_reducible first   | assumption   | exact rN _   | exact rO   | refine rD ?_   | refine rY ?_   | refine rO' ?_   | refine rP ?_ ?_   | refine rA.push ?_ ?_   | refine rA.app ?_ ?_   | refine rA.ext ?_ _ _   | refine rA.rv ?_   | refine rA.one ?_)); done))
          | with_reducible exact Sir.elem ha _
          | with_reducible exact Sir.elem hb _
          | with_reducible exact Sir.lt al (by assumption) (by assumption)
          | with_reducible exact Sir.gallop al (by assumption) ha _ _ _
          | with_reducible exact Sir.gallop al (by assumption) hb _ _ _
          | with_reducible refine Sir.ite ?_ ?_
          | with_reducible refine Sir.bind (Sir.elem ha _) fun _ _ _ => ?_
          | with_reducible refine Sir.bind (Sir.elem hb _) fun _ _ _ => ?_
          | (with_reducible refine Sir.bindE (Sir.lt al (by assumption) (by assumption)) ?_); rintro (_ | _)
          | (with_reducible refine Sir.bindE (Sir.gallop al (by assumption) ha _ _ _) ?_); rintro (_ | _)
          | (with_reducible refine Sir.bindE (Sir.gallop al (by assumption) hb _ _ _) ?_); rintro (_ | _)
          | (with_reducible refine Sir.bindE (Sir.setMG _) fun _ => ?_)
          | dsimp only)
  · rintro _ _ ⟨h, ⟨_, ⟨⟨⟩, ⟨⟨⟩, ⟨⟩⟩⟩⟩⟩
    rcases h with _ | h
    · dsimp only
      exact Sir.unsup
    · dsimp only
      repeat' (first
        | ((with_reducible refine Sir.pure ?_) <;> ((repeat' (with_reducible first   | assumption   | exact rN _   | exact rO   | refine rD ?_   | refine rY ?_   | refine rO' ?_   | refine rP ?_ ?_   | refine rA.push ?_ ?_   | refine rA.app ?_ ?_   | refine rA.ext ?_ _ _   | refine rA.rv ?_   | refine rA.one ?_)); done))
        | with_reducible exact Sir.elem ha _
        | with_reducible exact Sir.elem hb _
        | with_reducible exact Sir.lt al (by assumption) (by assumption)
        | with_reducible exact Sir.gallop al (by assumption) ha _ _ _
        | with_reducible exact Sir.gallop al (by assumption) hb _ _ _
        | with_reducible refine Sir.ite ?_ ?_
        | with_reducible refine Sir.bind (Sir.elem ha _) fun _ _ _ => ?_
        | with_reducible refine Sir.bind (Sir.elem hb _) fun _ _ _ => ?_
        | (with_reducible refine Sir.bindE (Sir.lt al (by assumption) (by assumption)) ?_); rintro (_ | _)
        | (with_reducible refine Sir.bindE (Sir.gallop al (by assumption) ha _ _ _) ?_); rintro (_ | _)
        | (with_reducible refine Sir.bindE (Sir.gallop al (by assumption) hb _ _ _) ?_); rintro (_ | _)
        | (with_reducible refine Sir.bindE (Sir.setMG _) fun _ => ?_)
        | dsimp only)
end PyProof.Rows.Sm
set_option Elab.async false
set_option linter.all false
set_option maxHeartbeats 400000
set_option maxRecDepth 100000
namespace PyProof.Rows.Sm
open PySem
open Rel (rel)
set_option autoImplicit false
variable {T : Two}
theorem Sir.mergeHi (al : Alike T) {a1 a2 b1 b2 : Array Keyed} (ha : rel T a1 a2) (hb : rel T b1 b2) : Sir T (mergeHi' a1 b1) (mergeHi' a2 b2) := by
  rw [mergeHi'_eq, mergeHi'_eq]
  refine Sir.bindE (Sir.self Self.rule) fun _ => ?_
  dsimp only
  rw [rA.size ha, rA.size hb]
  refine Sir.bind (Sir.elem ha _) fun x y hx => ?_
  refine Sir.ite ?_ ?_
  · ((with_reducible refine Sir.pure ?_) <;> ((repeat' (with_reducible first   | assumption   | exact rN _   | exact rO   | refine rD ?_   | refine rY ?_   | refine rO' ?_   | refine rP ?_ ?_   | refine rA.push ?_ ?_   | refine rA.app ?_ ?_   | refine rA.ext ?_ _ _   | refine rA.rv ?_   | refine rA.one ?_)); done))
  refine Sir.ite ?_ ?_
  · ((with_reducible refine Sir.pure ?_) <;> ((repeat' (with_reducible first   | assumption   | exact rN _   | exact rO   | refine rD ?_   | refine rY ?_   | refine rO' ?_   | refine rP ?_ ?_   | refine rA.push ?_ ?_   | refine rA.app ?_ ?_   | refine rA.ext ?_ _ _   | refine rA.rv ?_   | refine rA.one ?_)); done))
  refine Sir.getb fun σ => ?_
  rw [show gallopOf (T.S1 σ) = gallopOf (T.S2 σ) from rfl]
  refine Sir.bind (Sir.forR ?_ ?_) ?_
  · repeat' (with_reducible first   | assumption   | exact rN _   | exact rO   | refine rD ?_   | refine rY ?_   | refine rO' ?_   | refine rP ?_ ?_   | refine rA.push ?_ ?_   | refine rA.app ?_ ?_   | refine rA.ext ?_ _ _   | refine rA.rv ?_   | refine rA.one ?_)
  · rintro _ _ _ ⟨_, ⟨⟨⟩, ⟨⟨⟩, ⟨_, ⟨⟩⟩⟩⟩⟩
    dsimp only
    refine Sir.bind (Sir.forR ?_ ?_) ?_
    · repeat' (with_reducible first   | assumption   | exact rN _   | exact rO   | refine rD ?_   | refine rY ?_   | refine rO' ?_   | refine rP ?_ ?_   | refine rA.push ?_ ?_   | refine rA.app ?_ ?_   | refine rA.ext ?_ _ _   | refine rA.rv ?_   | refine rA.one ?_)
    · rintro _ _ _ ⟨_, ⟨⟨⟩, ⟨⟨⟩, ⟨_, ⟨⟨⟩, ⟨⟩⟩⟩⟩⟩⟩
      dsimp only
      repeat' (first
        | ((with_reducible refine Sir.pure ?_) <;> ((repeat' (with_reducible first   | assumption   | exact rN _   | exact rO   | refine rD ?_   | refine rY ?_   | refine rO' ?_   | refine rP ?_ ?_   | refine rA.push ?_ ?_   | refine rA.app ?_ ?_   | refine rA.ext ?_ _ _   | refine rA.rv ?_   | refine rA.one ?_)); done))
        | with_reducible exact Sir.elem ha _
        | with_reducible exact Sir.elem hb _
        | with_reducible exact Sir.lt al (by assumption) (by assumption)
        | with_reducible exact Sir.gallop al (by assumption) ha _ _ _
        | with_reducible exact Sir.gallop al (by assumption) hb _ _ _
        | with_reducible refine Sir.ite ?_ ?_
        | with_reducible refine Sir.bind (Sir.elem ha _) fun _ _ _ => ?_
        | with_reducible refine Sir.bind (Sir.elem hb _) fun _ _ _ => ?_
        | (with_reducible refine Sir.bindE (Sir.lt al (by assumption) (by assumption)) ?_); rintro (_ | _)
        | (with_reducible refine Sir.bindE (Sir.gallop al (by assumption) ha _ _ _) ?_); rintro (_ | _)
        | (with_reducible refine Sir.bindE (Sir.gallop al (by assumption) hb _ _ _) ?_); rintro (_ | _)
        | (with_reducible refine Sir.bindE (Sir.setMG _) fun _ => ?_)
        | dsimp only)
    · rintro _ _ ⟨h, ⟨⟨⟩, ⟨⟨⟩, ⟨_, ⟨⟨⟩, ⟨⟩⟩⟩⟩⟩⟩
      rcases h with _ | h
      · dsimp only
        refine Sir.bindE (Sir.self Self.rule) fun _ => ?_
        refine Sir.bind (Sir.forR ?_ ?_) ?_
        · repeat' (with_reducible first   | assumption   | exact rN _   | exact rO   | refine rD ?_   | refine rY ?_   | refine rO' ?_   | refine rP ?_ ?_   | refine rA.push ?_ ?_   | refine rA.app ?_ ?_   | refine rA.ext ?_ _ _   | refine rA.rv ?_   | refine rA.one ?_)
        · rintro _ _ _ ⟨_, ⟨⟨⟩, ⟨⟨⟩, ⟨_, ⟨⟨⟩, ⟨⟨⟩, ⟨⟩⟩⟩⟩⟩⟩⟩
          dsimp only
          repeat' (first
            | ((with_reducible refine Sir.pure ?_) <;> ((repeat' (with_reducible first   | assumption   | exact rN _   | exact rO   | refine rD ?_   | refine rY ?_   | refine rO' ?_   | refine rP ?_ ?_   | refine rA.push ?_ ?_   | refine rA.app ?_ ?_   | refine rA.ext ?_ _ _   | refine rA.rv ?_   | refine rA.one ?_)); done))
            | with_reducible exact Sir.elem ha _
            | with_reducible exact Sir.elem hb _
            | with_reducible exact Sir.lt al (by assumption) (by assumption)
            | with_reducible exact Sir.gallop al (by assumption) ha _ _ _
            | with_reducible exact Sir.gallop al (by assumption) hb _ _ _
            | with_reducible refine Sir.ite ?_ ?_
            | with_reducible refine Sir.bind (Sir.elem ha _) fun _ _ _ => ?_
            | with_reducible refine Sir.bind (Sir.elem hb _) fun _ _ _ => ?_
            | (with_reducible refine Sir.bindE (Sir.lt al (by assumption) (by assumption)) ?_); rintro (_ | _)
            | (with_reducible refine Sir.bindE (Sir.gallop al (by assumption) ha _ _ _) ?_); rintro (_ | _)
            | (with_reducible refine Sir.bindE (Sir.gallop al (by assumption) hb _ _ _) ?_); rintro (_ | _)
            | (with_reducible refine Sir.bindE (Sir.setMG _) fun _ => ?_)
            | dsimp only)
        · rintro _ _ ⟨h, ⟨⟨⟩, ⟨⟨⟩, ⟨_, ⟨⟨⟩, ⟨⟨⟩, ⟨⟩⟩⟩⟩⟩⟩⟩
          rcases h with _ | h
          · dsimp only
            repeat' (first
              | ((with_reducible refine Sir.pure ?_) <;> ((repeat' (with_reducible first   | assumption   | exact rN _   | exact rO   | refine rD ?_   | refine rY ?_   | refine rO' ?_   | refine rP ?_ ?_   | refine rA.push ?_ ?_   | refine rA.app ?_ ?_   | refine rA.ext ?_ _ _   | refine rA.rv ?_   | refine rA.one ?_)); done))
              | with_reducible exact Sir.elem ha _
              | with_reducible exact Sir.elem hb _
              | with_reducible exact Sir.lt al (by assumption) (by assumption)
              | with_reducible exact Sir.gallop al (by assumption) ha _ _ _
              | with_reducible exact Sir.gallop al (by assumption) hb _ _ _
              | with_reducible refine Sir.ite ?_ ?_
              | with_reducible refine Sir.bind (Sir.elem ha _) fun _ _ _ => ?_
              | with_reducible refine Sir.bind (Sir.elem hb _) fun _ _ _ => ?_
              | (with_reducible refine Sir.bindE (Sir.lt al (by assumption) (by assumption)) ?_); rintro (_ | _)
              | (with_reducible refine Sir.bindE (Sir.gallop al (by assumption) ha _ _ _) ?_); rintro (_ | _)
              | (with_reducible refine Sir.bindE (Sir.gallop al (by assumption) hb _ _ _) ?_); rintro (_ | _)
              | (with_reducible refine Sir.bindE (Sir.setMG _) fun _ => ?_)
              | dsimp only)
          · dsimp only
            repeat' (first
              | ((with_reducible refine Sir.pure ?_) <;> ((repeat' (with_reducible first   | assumption   | exact rN _   | exact rO   | refine rD ?_   | refine rY ?_   | refine rO' ?_   | refine rP ?_ ?_   | refine rA.push ?_ ?_   | refine rA.app ?_ ?_   | refine rA.ext ?_ _ _   | refine rA.rv ?_   | refine rA.one ?_)); done))
              | with_reducible exact Sir.elem ha _
              | with_reducible exact Sir.elem hb _
              | with_reducible exact Sir.lt al (by assumption) (by assumption)
              | with_reducible exact Sir.gallop al (by assumption) ha _ _ _
              | with_reducible exact Sir.gallop al (by assumption) hb _ _ _
              | with_reducible refine Sir.ite ?_ ?_
              | with_reducible refine Sir.bind (Sir.elem ha _) fun _ _ _ => ?_
              | with_reducible refine Sir.bind (Sir.elem hb _) fun _ _ _ => ?_
              | (with_reducible refine Sir.bindE (Sir.lt al (by assumption) (by assumption)) ?_); rintro (_ | _)
              | (with_reducible refine Sir.bindE (Sir.gallop al (by assumption) ha _ _ _) ?_); rintro (_ | _)
              | (with_reducible refine Sir.bindE (Sir.gallop al (by assumption) hb _ _ _) ?_); rintro (_ | _)
              | (with_reducible refine Sir.bindE (Sir.setMG _) fun _ => ?_)
              | dsimp only)
      · dsimp only
        repeat' (first
          | ((with_reducible refine Sir.pure ?_) <;> ((repeat' (with_reducible first   | assumption   | exact rN _   | exact rO   | refine rD ?_   | refine rY ?_   | refine rO' ?_   | refine rP ?_ ?_   | refine rA.push ?_ ?_   | refine rA.app ?_ ?_   | refine rA.ext ?_ _ _   | refine rA.rv ?_   | refine rA.one ?_)); done))
          | with_reducible exact Sir.elem ha _
          | with_reducible exact Sir.elem hb _
          | with_reducible exact Sir.lt al (by assumption) (by assumption)
          | with_reducible exact Sir.gallop al (by assumption) ha _ _ _
          | with_reducible exact Sir.gallop al (by assumption) hb _ _ _
          | with_reducible refine Sir.ite ?_ ?_
          | with_reducible refine Sir.bind (Sir.elem ha _) fun _ _ _ => ?_
          | with_reducible refine Sir.bind (Sir.elem hb _) fun _ _ _ => ?_
          | (with_reducible refine Sir.bindE (Sir.lt al (by assumption) (by assumption)) ?_); rintro (_ | _)
          | (with_reducible refine Sir.bindE (Sir.gallop al (by assumption) ha _ _ _) ?_); rintro (_ | _)
          | (with_reducible refine Sir.bindE (Sir.gallop al (by assumption) hb _ _ _) ?_); rintro (_ | _)
          | (with_reducible refine Sir.bindE (Sir.setMG _) fun _ => ?_)
          | dsimp only)
  · rintro _ _ ⟨h, ⟨⟨⟩, ⟨⟨⟩, ⟨_, ⟨⟩⟩⟩⟩⟩
    rcases h with _ | h
    · dsimp only
      exact Sir.unsup
    · dsimp only
      repeat' (first
        | ((with_reducible refine Sir.pure ?_) <;> ((repeat' (with_reducible first   | assumption   | exact rN _   | exact rO   | refine rD ?_   | refine rY ?_   | refine rO' ?_   | refine rP ?_ ?_   | refine rA.push ?_ ?_   | refine rA.app ?_ ?_   | refine rA.ext ?_ _ _   | refine rA.rv ?_   | refine rA.one ?_)); done))
        | with_reducible exact Sir.elem ha _
        | with_reducible exact Sir.elem hb _
        | with_reducible exact Sir.lt al (by assumption) (by assumption)
        | with_reducible exact Sir.gallop al (by assumption) ha _ _ _
        | with_reducible exact Sir.gallop al (by assumption) hb _ _ _
        | with_reducible refine Sir.ite ?_ ?_
        | with_reducible refine Sir.bind (Sir.elem ha _) fun _ _ _ => ?_
        | with_reducible refine Sir.bind (Sir.elem hb _) fun _ _ _ => ?_
        | (with_reducible refine Sir.bindE (Sir.lt al (by assumption) (by assumption)) ?_); rintro (_ | _)
        | (with_reducible refine Sir.bindE (Sir.gallop al (by assumption) ha _ _ _) ?_); rintro (_ | _)
        | (with_reducible refine Sir.bindE (Sir.gallop al (by assumption) hb _ _ _) ?_); rintro (_ | _)
        | (with_reducible refine Sir.bindE (Sir.setMG _) fun _ => ?_)
        | dsimp only)
end PyProof.Rows.Sm
set_option Elab.async false
set_option linter.all false
set_option maxHeartbeats 4000000
set_option maxRecDepth 100000
namespace PyProof.Rows.Sm
open PySem
open Rel (rel)
set_option autoImplicit false
variable {T : Two}
theorem set_map {α β : Type} (f : α → β) (k : Nat) : ∀ (l : List (α × Nat)) (xs : Array α), (l.map fun q => (f q.1, q.2)).foldl (fun a (q : β × Nat) => a.setIfInBounds (k + q.2) q.1) (xs.map f) = (l.foldl (fun a (q : α × Nat) => a.setIfInBounds (k + q.2) q.1) xs).map f
  | [], xs => rfl
  | q :: l, xs => by
    rw [List.map_cons, List.foldl_cons, List.foldl_cons, ← set_map f k l, Array.map_setIfInBounds]
theorem zip_map {α β : Type} (f : α → β) (l : List α) (n : Nat) : (l.map f).zipIdx n = (l.zipIdx n).map fun q => (f q.1, q.2) := by
  rw [List.zipIdx_map]
  rfl
theorem Sir.setP {σ : T.St} {p : Array (Nat × Nat × Nat)} : Sir T (set (setPending (T.S1 σ) p) : StateT SortSt Sem PUnit) (set (setPending (T.S2 σ) p)) := ⟨fun σ' Q2 h => by
  obtain ⟨q, h⟩ := h
  rw [StateT.run_set, Sem.wp_pure'] at h
  intro q
  rw [StateT.run_set, Sem.wp_pure']
  exact ⟨rfl, ⟨⟩, { σ with pend := p }, rfl, rfl, h⟩⟩
theorem Sir.put {m1 m2 : Array Keyed} (h : rel T m1 m2) (sa : Nat) :
    Sir T (modify fun s => setArr s (m1.toList.zipIdx.foldl (fun a (p, j) => a.setIfInBounds (sa + j) p) (arrOf s)) : StateT SortSt Sem PUnit) (modify fun s => setArr s (m2.toList.zipIdx.foldl (fun a (p, j) => a.setIfInBounds (sa + j) p) (arrOf s))) := by
  obtain ⟨z, rfl, rfl⟩ := h
  refine Sir.self' (Sim.modify (fun σ => { σ with arr := z.toList.zipIdx.foldl (fun a (q : T.Z × Nat) => a.setIfInBounds (sa + q.2) q.1) σ.arr }) (fun σ => ?_) (fun σ => ?_))
  · show setArr (T.S1 σ) _ = T.S1 _
    simp only [Two.S1, setArr, Two.v1, Array.toList_map, zip_map]
    rw [← set_map]
  · show setArr (T.S2 σ) _ = T.S2 _
    simp only [Two.S2, setArr, Two.v2, Array.toList_map, zip_map]
    rw [← set_map]
where
  Sir.self' {m1 m2 : StateT SortSt Sem PUnit} (h : Sim T id id m1 m2) : Sir T m1 m2 := Sir.of h fun c => rfl
theorem Sir.mergeAt (al : Alike T) (i : Nat) : Sir T (mergeAt' i) (mergeAt' i) := by
  rw [mergeAt'_eq]
  refine Sir.getb fun σ => ?_
  have hA : rel T (arrOf (T.S1 σ)) (arrOf (T.S2 σ)) := ⟨σ.arr, rfl, rfl⟩
  have e1 : pendingOf (T.S1 σ) = σ.pend := rfl
  have e2 : pendingOf (T.S2 σ) = σ.pend := rfl
  rw [e1, e2]
  dsimp only
  cases σ.pend[i]? with
  | none => exact Sir.unsup
  | some q =>
  cases σ.pend[i + 1]? with
  | none => exact Sir.unsup
  | some q' =>
  obtain ⟨sa, na, pw⟩ := q
  obtain ⟨sb, nb, pw'⟩ := q'
  dsimp only
  refine Sir.bindE Sir.setP fun _ => ?_
  refine Sir.bind (Sir.elem hA _) fun x y hx => ?_
  refine Sir.bindE (Sir.gallop al hx hA _ _ _) ?_
  rintro (_ | k)
  · exact Sir.pureE _
  dsimp only
  refine Sir.ite (Sir.pureE _) ?_
  refine Sir.bind (Sir.elem hA _) fun x y hx => ?_
  refine Sir.bindE (Sir.gallop al hx hA _ _ _) ?_
  rintro (_ | k)
  · exact Sir.pureE _
  dsimp only
  refine Sir.ite (Sir.pureE _) ?_
  refine Sir.ite (Sir.bind (Sir.mergeLo al (rA.ext hA _ _) (rA.ext hA _ _)) ?_) (Sir.bind (Sir.mergeHi al (rA.ext hA _ _) (rA.ext hA _ _)) ?_)
  all_goals
    intro m1 m2 hm
    refine Sir.bindE (Sir.put hm _) fun _ => ?_
    refine Sir.getb fun σ' => ?_
    exact Sir.pureE _
end PyProof.Rows.Sm
set_option Elab.async false
set_option linter.all false
set_option maxHeartbeats 4000000
set_option maxRecDepth 100000
namespace PyProof.Rows.Sm
open PySem
open Rel (rel)
set_option autoImplicit false
variable {T : Two}
theorem Sir.modP (g : Array (Nat × Nat × Nat) → Array (Nat × Nat × Nat)) : Sir T (modify fun s => setPending s (g (pendingOf s)) : StateT SortSt Sem PUnit) (modify fun s => setPending s (g (pendingOf s))) :=
  Sir.of (g1 := id) (g2 := id) (Sim.modify (fun σ => { σ with pend := g σ.pend }) (fun σ => rfl) (fun σ => rfl)) fun c => rfl
theorem Sir.sortRuns (al : Alike T) : Sir T sortRuns' sortRuns' := by
  rw [sortRuns'_eq]
  refine Sir.getb fun σ => ?_
  have hA : rel T (arrOf (T.S1 σ)) (arrOf (T.S2 σ)) := ⟨σ.arr, rfl, rfl⟩
  rw [rA.size hA]
  have hp : ∀ σ : T.St, pendingOf (T.S1 σ) = pendingOf (T.S2 σ) := fun _ => rfl
  generalize (arrOf (T.S2 σ)).size = size
  dsimp only
  generalize minRun' size size 0 = mr
  refine Sir.bindE ?_ ?_
  · refine Sir.forE fun i c => ?_
    obtain ⟨c1, lo⟩ := c
    dsimp only
    refine Sir.ite (Sir.pureE _) ?_
    refine Sir.bindE (Sir.self (Self.count al _ _)) ?_
    rintro (_ | n)
    · exact Sir.pureE _
    dsimp only
    refine Sir.ite ?_ ?_
    · refine Sir.bindE (Sir.self Self.rule) fun _ => ?_
      refine Sir.bindE (Sir.self (Self.binary al _ _ _)) fun ok => ?_
      refine Sir.ite (Sir.pureE _) ?_
      refine Sir.getb fun σ => ?_
      rw [hp]
      rcases (pendingOf (T.S2 σ)).back? with _ | ⟨s1, n1, _⟩
      · dsimp only
        refine Sir.bindE (Sir.modP (fun p => p.push (lo,  (min (size - lo) mr), 0))) fun _ => ?_
        exact Sir.pureE _
      · dsimp only
        refine Sir.bindE ?_ ?_
        · refine Sir.forE fun i c => ?_
          refine Sir.getb fun σ => ?_
          rw [hp]
          rcases (if (pendingOf (T.S2 σ)).size > 1 then (pendingOf (T.S2 σ))[(pendingOf (T.S2 σ)).size - 2]? else none) with _ | ⟨_, _, older⟩
          · exact Sir.pureE _
          · dsimp only
            refine Sir.ite (Sir.pureE _) ?_
            refine Sir.bindE (Sir.mergeAt al _) fun ok => ?_
            exact Sir.ite (Sir.pureE _) (Sir.pureE _)
        · rintro ⟨_ | r, _⟩
          · dsimp only
            refine Sir.bindE (Sir.modP (fun p => p.modify (p.size - 1) fun x => (x.fst, x.2.fst, power' size (2 * s1 + n1) (2 * s1 + n1 + n1 + (min (size - lo) mr)) size))) fun _ => ?_
            refine Sir.bindE (Sir.modP (fun p => p.push (lo,  (min (size - lo) mr), 0))) fun _ => ?_
            exact Sir.pureE _
          · exact Sir.pureE _
    · skip
      refine Sir.getb fun σ => ?_
      rw [hp]
      rcases (pendingOf (T.S2 σ)).back? with _ | ⟨s1, n1, _⟩
      · dsimp only
        refine Sir.bindE (Sir.modP (fun p => p.push (lo,  n, 0))) fun _ => ?_
        exact Sir.pureE _
      · dsimp only
        refine Sir.bindE ?_ ?_
        · refine Sir.forE fun i c => ?_
          refine Sir.getb fun σ => ?_
          rw [hp]
          rcases (if (pendingOf (T.S2 σ)).size > 1 then (pendingOf (T.S2 σ))[(pendingOf (T.S2 σ)).size - 2]? else none) with _ | ⟨_, _, older⟩
          · exact Sir.pureE _
          · dsimp only
            refine Sir.ite (Sir.pureE _) ?_
            refine Sir.bindE (Sir.mergeAt al _) fun ok => ?_
            exact Sir.ite (Sir.pureE _) (Sir.pureE _)
        · rintro ⟨_ | r, _⟩
          · dsimp only
            refine Sir.bindE (Sir.modP (fun p => p.modify (p.size - 1) fun x => (x.fst, x.2.fst, power' size (2 * s1 + n1) (2 * s1 + n1 + n1 + n) size))) fun _ => ?_
            refine Sir.bindE (Sir.modP (fun p => p.push (lo,  n, 0))) fun _ => ?_
            exact Sir.pureE _
          · exact Sir.pureE _
  · rintro ⟨_ | c, lo⟩
    · dsimp only
      refine Sir.bindE ?_ ?_
      · refine Sir.forE fun i c => ?_
        refine Sir.getb fun σ => ?_
        rw [hp]
        refine Sir.ite (Sir.pureE _) ?_
        refine Sir.bindE (Sir.mergeAt al _) fun ok => ?_
        exact Sir.ite (Sir.pureE _) (Sir.pureE _)
      · rintro ⟨_ | r, _⟩
        · exact Sir.pureE _
        · exact Sir.pureE _
    · exact Sir.pureE _
end PyProof.Rows.Sm
set_option Elab.async false
set_option linter.all false
set_option maxHeartbeats 1000000
set_option maxRecDepth 100000
namespace PyProof.Rows.Sm
open PySem PySem.W PySem.AutoSeq1 PySem.MeetsSeq PySem.MeetsSeq3
set_option autoImplicit false
theorem drop_cons {vs us : List Value} {x : Int} {xs : List Int} {i : Nat} (e : vs.drop i = us) (h : IntsAre us (x :: xs)) : ∃ t, vs[i]? = some (.int x t) ∧ IntsAre (vs.drop (i + 1)) xs ∧ i < vs.length := by
  cases h with
  | cons _ t r =>
    have hi : i < vs.length := by
      apply Nat.lt_of_not_le
      intro h
      rw [List.drop_eq_nil_of_le h] at e
      cases e
    rw [List.drop_eq_getElem_cons hi] at e
    injection e with e1 e2
    exact ⟨_, by rw [List.getElem?_eq_getElem hi, e1], by rw [e2]; exact r, hi⟩
theorem drop_nil {vs us : List Value} {i : Nat} (e : vs.drop i = us) (h : IntsAre us []) (hi : i ≤ vs.length) : i = vs.length := by
  cases h
  have := List.drop_eq_nil_iff.mp e
  omega
theorem lt_loop (l b : Addr) (us vs : List Value) (n m : Nat) : ∀ (xs ys : List Int) (i : Nat), IntsAre (us.drop i) xs → IntsAre (vs.drop i) ys → i ≤ us.length → i ≤ vs.length →
    Meets (Builtin.«list.__eq__.loop» ⟨[.ref l, .ref b, rawInt i, rawInt 0], []⟩)
      (fun _ R s => s.heap.get? l = some (seqObj "list" us.toArray n) ∧ s.heap.get? b = some (seqObj "list" vs.toArray m) ∧ R (.ok (.ret (.bool (decide (xs < ys))))) s) := by
  intro xs
  induction xs with
  | nil =>
    intro ys i hx hy hi hj prog w A R s h
    obtain ⟨hp, g, d, tk, os⟩ := s; obtain ⟨hl, hb, h⟩ := h
    have e1 := drop_nil rfl hx hi
    have hi1 : us.toArray[((i : Nat) : Int).toNat]? = none := by simp; omega
    wp_walk using wpAny_loadPart' hl, wpAny_loadPart' hb
    rw [hi1]
    wp_walk using wpAny_loadPart' hl, wpAny_loadPart' hb
    show R (.ok (.ret (.bool (decide (us.toArray.size < vs.toArray.size))))) _
    have : decide (us.toArray.size < vs.toArray.size) = decide (([] : List Int) < ys) := by
      cases ys with
      | nil =>
        have e2 := drop_nil rfl hy hj
        simp; omega
      | cons y ys =>
        obtain ⟨_, _, _, h3⟩ := drop_cons rfl hy
        simp; omega
    rw [this]
    exact h
  | cons x xs ih =>
    intro ys i hx hy hi hj prog w A R s h
    obtain ⟨hp, g, d, tk, os⟩ := s; obtain ⟨hl, hb, h⟩ := h
    obtain ⟨t, e1, hx', hi'⟩ := drop_cons rfl hx
    have hi1 : us.toArray[((i : Nat) : Int).toNat]? = some (.int x t) := by simp [e1]
    cases ys with
    | nil =>
      have e2 := drop_nil rfl hy hj
      have hi2 : vs.toArray[((i : Nat) : Int).toNat]? = none := by simp; omega
      wp_walk using wpAny_loadPart' hl, wpAny_loadPart' hb
      rw [hi1, hi2]
      wp_walk using wpAny_loadPart' hl, wpAny_loadPart' hb
      show R (.ok (.ret (.bool (decide (us.toArray.size < vs.toArray.size))))) _
      have : decide (us.toArray.size < vs.toArray.size) = decide ((x :: xs) < []) := by
        simp; omega
      rw [this]
      exact h
    | cons y ys =>
      obtain ⟨u, e2, hy', hj'⟩ := drop_cons rfl hy
      have hi2 : vs.toArray[((i : Nat) : Int).toNat]? = some (.int y u) := by simp [e2]
      have hc : ((i : Int) + 1) = ((i + 1 : Nat) : Int) := by push_cast; rfl
      wp_walk using wpAny_loadPart' hl, wpAny_loadPart' hb
      rw [hi1, hi2]
      refine wpAny_bind (wpAny_eqBool_int ?_)
      by_cases hxy : x = y
      · subst hxy
        rw [beq_self_eq_true]
        wp_walk
        rw [hc]
        exact ⟨plainId_quiet plain_eq_loop _, codeAny_builtin entry_eq_loop (by
          rw [Around.under_plainId plain_eq_loop _]
          refine ih ys (i + 1) hx' hy' hi' hj' prog w A R _ ⟨hl, hb, ?_⟩
          rw [show decide (xs < ys) = decide (x :: xs < x :: ys) from by simp]
          exact h)⟩
      · rw [show (x == y) = false from by simp [hxy]]
        wp_walk using wpAny_loadPart' hl, wpAny_loadPart' hb
        rw [hi1, hi2]
        dsimp only
        refine wpAny_bind (wpAny_lt_int (prog := prog) (w := w) ?_)
        refine wpAny_pure ?_
        have : decide (x < y) = decide (x :: xs < y :: ys) := by simp [List.cons_lt_cons_iff, hxy]
        rw [this]
        exact h
theorem list_lt (l b : Addr) {us vs : List Value} {n m : Nat} {xs ys : List Int} (hx : IntsAre us xs) (hy : IntsAre vs ys) :
    Meets (Builtin.«list.__lt__» ⟨[.ref l, .ref b], []⟩)
      (fun _ R s => s.heap.get? l = some (seqObj "list" us.toArray n) ∧ s.heap.get? b = some (seqObj "list" vs.toArray m) ∧ R (.ok (.ret (.bool (decide (xs < ys))))) s) := by
  intro prog w A R s h
  obtain ⟨hp, g, d, tk, os⟩ := s; obtain ⟨hl, hb, h⟩ := h
  have f3 := AutoSeq1.sub_list_list
  wp_walk using wpAny_loadPart' hl, wpAny_loadPart' hb
  exact ⟨plainId_quiet plain_eq_loop _, codeAny_builtin entry_eq_loop (by
    rw [Around.under_plainId plain_eq_loop _]
    exact lt_loop l b us vs n m xs ys 0 hx hy (Nat.zero_le _) (Nat.zero_le _) prog w A R _ ⟨hl, hb, h⟩)⟩
theorem keyLt_list {prog : Program} {w : World} {A : Around} {E : Value → Shared → Prop} {s : Shared} {l b : Addr} {us vs : List Value} {n m : Nat} {xs ys : List Int} {Q : Bool → Shared → Prop}
    (hu : A.units < cLine) (hl : s.heap.get? l = some (seqObj "list" us.toArray n)) (hb : s.heap.get? b = some (seqObj "list" vs.toArray m)) (hx : IntsAre us xs) (hy : IntsAre vs ys) (h : Q (decide (xs < ys)) s) :
    wpAny (model prog w) A (keyLt' oneType' (.ref l) (.ref b)) Q E s := by
  rw [keyLt'_oneType, oneLt'_eq]
  simp only [if_true]
  refine wpAny_bind (wpAny_cRoomFor hu ?_)
  refine wpAny_bind (wpAny_callSpecialIfBound?_slot ⟨_, hl, rfl⟩ F.slot_list_lt (call_meets F.slot_list_lt ⟨_, hl, rfl⟩ F.entry_list_lt (F.args_list_lt_2 _ _) (list_lt l b hx hy) ⟨hl, hb, ?_⟩))
  exact wpAny_truthy_bool h
end PyProof.Rows.Sm
set_option Elab.async false
set_option linter.all false
set_option maxHeartbeats 1000000
set_option maxRecDepth 100000
namespace PyProof.Rows.Sm
open PySem PySem.W
set_option autoImplicit false
def rk (nss : List (List Int)) (xs : List Int) : Nat := nss.countP fun z => decide (z < xs)
theorem rk_mono {nss : List (List Int)} {xs ys : List Int} (h : ¬ ys < xs) : rk nss xs ≤ rk nss ys := by
  unfold rk
  apply List.countP_mono_left
  intro z _ hz
  simp only [decide_eq_true_eq] at hz ⊢
  exact Classical.byContradiction fun hn => h (List.lt_of_le_of_lt (List.not_lt.mp hn) hz)
theorem countP_lt {α : Type} {p q : α → Bool} (h : ∀ x, p x = true → q x = true) {a : α} (ha : q a = true) (hb : p a = false) : ∀ {l : List α}, a ∈ l → l.countP p < l.countP q
  | [], m => nomatch m
  | x :: l, m => by
    have mono : l.countP p ≤ l.countP q := List.countP_mono_left fun x _ => h x
    rw [List.countP_cons, List.countP_cons]
    rcases List.mem_cons.mp m with rfl | m
    · rw [ha, hb]; simp; omega
    · have := countP_lt h ha hb m
      have hx := h x
      cases hp : p x <;> cases hq : q x <;> simp_all <;> omega
theorem rk_lt {nss : List (List Int)} {xs ys : List Int} (hx : xs ∈ nss) (h : xs < ys) : rk nss xs < rk nss ys := by
  unfold rk
  refine countP_lt (a := xs) (fun z hz => ?_) (by simpa using h) (by simp) hx
  simp only [decide_eq_true_eq] at hz ⊢
  exact List.lt_trans hz h
theorem rk_iff {nss : List (List Int)} {xs ys : List Int} (hx : xs ∈ nss) : decide (xs < ys) = decide ((rk nss xs : Int) < (rk nss ys : Int)) := by
  by_cases h : xs < ys
  · have := rk_lt hx h
    rw [decide_eq_true h, decide_eq_true (by omega)]
  · have := rk_mono (nss := nss) h
    rw [decide_eq_false h, decide_eq_false (by omega)]
theorem perm_map_inv {α β : Type} (g : α → β) {l l' : List β} (h : l.Perm l') : ∀ ps : List α, l' = ps.map g → ∃ zs : List α, zs.Perm ps ∧ l = zs.map g := by
  induction h with
  | nil =>
    intro ps e
    cases ps with
    | nil => exact ⟨[], .nil, rfl⟩
    | cons _ _ => cases e
  | cons x _ ih =>
    intro ps e
    cases ps with
    | nil => cases e
    | cons p ps =>
      injection e with e1 e2
      obtain ⟨zs, h1, h2⟩ := ih ps e2
      exact ⟨p :: zs, h1.cons p, by rw [List.map_cons, e1, h2]⟩
  | swap x y l =>
    intro ps e
    match ps, e with
    | p :: q :: ps, e =>
      injection e with e1 e2
      injection e2 with e2 e3
      exact ⟨q :: p :: ps, .swap p q ps, by rw [List.map_cons, List.map_cons, ← e1, ← e2, ← e3]⟩
  | trans _ _ ih1 ih2 =>
    intro ps e
    obtain ⟨z2, h2, e2⟩ := ih2 ps e
    obtain ⟨z1, h1, e1⟩ := ih1 z2 e2
    exact ⟨z1, h1.trans h2, e1⟩
@[reducible] def numK : KeyKind where
  α := Int
  blt := fun a b => decide (a < b)
  irrefl := fun a => by simp
  trans := fun a b c h1 h2 => by simp only [decide_eq_true_eq] at *; omega
  negTrans := fun a b c h => by simp only [decide_eq_true_eq] at *; omega
  total := fun a b h1 h2 => by simp only [decide_eq_false_iff_not] at *; omega
  keyOf := fun v => match v with | .int n _ => some n | _ => none
  dflt := 0
theorem num_ltAt {prog : Program} {w : World} {s : Shared} : G.LtAt prog w s numK oneType' := by
  intro A E x y a b Q hx hy h
  cases x <;> try (cases hx; done)
  cases y <;> try (cases hy; done)
  cases hx
  cases hy
  rw [keyLt'_oneType]
  exact oneLt_int h
structure Lists (s : Shared) (ps : List (Addr × List Int)) : Prop where
  at' : ∀ p ∈ ps, ∃ us n, s.heap.get? p.1 = some (seqObj "list" (List.toArray us) n) ∧ IntsAre us p.2
def keyN (ps : List (Addr × List Int)) (p : Addr × List Int) : Keyed := (.int (rk (ps.map (·.2)) p.2) 0, .ref p.1)
def twoL (prog : Program) (w : World) (Γ : Ctx) (s : Shared) (E : Value → Shared → Prop) (ps : List (Addr × List Int)) : Two where
  M := model prog w
  Γ := Γ
  s := s
  E := E
  D := fun x => ∃ p ∈ ps, x = keyN ps p
  f := fun x => (x.2, x.2)
  kd1 := oneType'
  kd2 := oneType'
theorem twoL_alike {prog : Program} {w : World} {Γ : Ctx} {A : Around} {s : Shared} {E : Value → Shared → Prop} {ps : List (Addr × List Int)} (hΓ : Γ.In A) (hu : A.units < cLine) (hL : Lists s ps) : Alike (twoL prog w Γ s E ps) := by
  rintro ⟨_, p, hp, rfl⟩ ⟨_, q, hq, rfl⟩
  obtain ⟨us, n, h1, h2⟩ := hL.at' p hp
  obtain ⟨vs, m, h3, h4⟩ := hL.at' q hq
  refine ⟨decide (p.2 < q.2), fun a => ?_, fun a => ?_⟩
  · exact keyLt_list (prog := prog) (w := w) (A := A) (s := s) (Q := fun r s' => r = decide (p.2 < q.2) ∧ s' = s) (E := fun _ _ => False) hu h1 h3 h2 h4 ⟨rfl, rfl⟩ Γ a hΓ
  · rw [rk_iff (nss := ps.map (·.2)) (ys := q.2) (List.mem_map_of_mem hp)]
    have := oneLt_int (prog := prog) (w := w) (A := A) (s := s) (a := rk (ps.map (·.2)) p.2) (b := rk (ps.map (·.2)) q.2) (t := 0) (u := 0) (Q := fun r s' => r = decide ((rk (ps.map (·.2)) p.2 : Int) < rk (ps.map (·.2)) q.2) ∧ s' = s) (E := fun _ _ => False) ⟨rfl, rfl⟩
    exact this Γ a hΓ
theorem runs_lists {prog : Program} {w : World} {A : Around} {E : Value → Shared → Prop} {s : Shared} {ps : List (Addr × List Int)} (hu : A.units < cLine) (hL : Lists s ps) (h2 : 2 ≤ ps.length) :
    wpS (model prog w) A E s sortRuns' (fun _ st' => failedOf st' = none ∧ ∃ zs : List (Addr × List Int), zs.Perm ps ∧ (∀ i j (hi : i < zs.length) (hj : j < zs.length), i ≤ j → ¬ zs[j].2 < zs[i].2) ∧ (arrOf st').map (·.2) = (zs.map fun p => Value.ref p.1).toArray)
      (SortSt.mk' oneType' (pairsOf (ps.map fun p => Value.ref p.1)) #[] 7 none) := by
  intro Γ p hΓ
  let T := twoL prog w Γ s E ps
  let arr : Array T.Z := (ps.attach.map fun p => (⟨keyN ps p.1, p.1, p.2, rfl⟩ : T.Z)).toArray
  let σ : T.St := ⟨arr, #[], 7⟩
  have hv2 : T.v2 arr = (ps.map (keyN ps)).toArray := by
    show Array.map _ _ = _
    rw [List.map_toArray, List.map_map]
    congr 1
    exact (List.attach_map_val (l := ps) (f := keyN ps))
  have hv1 : T.v1 arr = pairsOf (ps.map fun p => Value.ref p.1) := by
    show Array.map _ _ = _
    rw [List.map_toArray, List.map_map]
    unfold pairsOf
    rw [List.zip_toArray]
    congr 1
    rw [List.zip_map']
    exact (List.attach_map_val (l := ps) (f := fun p => ((Value.ref p.1, Value.ref p.1) : Keyed)))
  have run := G.wpS_sortRunsSt (prog := prog) (w := w) (A := A) (E := fun _ _ => False) (s := s) (κ := numK) (kd := oneType') (a₀ := T.v2 arr) (st := T.S2 σ)
    (Q := fun _ st' => (arrOf st').Perm (T.v2 arr) ∧ failedOf st' = none ∧ SortedToK numK (arrOf st') (T.v2 arr).size) num_ltAt ?_ ⟨Array.Perm.refl _, rfl, rfl⟩ rfl (Stable.refl _) ?_ fun st' a1 a2 a3 _ => ⟨a1, a2, a3⟩
  · have w2 : W2 T sortRuns' (fun _ st' s' => (arrOf st').Perm (T.v2 arr) ∧ failedOf st' = none ∧ SortedToK numK (arrOf st') (T.v2 arr).size) (T.S2 σ) s :=
      ⟨p, Sem.wp_mono _ _ _ (fun r p' s' h' => h'.2) (fun _ _ _ e => e) _ _ (run Γ p hΓ)⟩
    have w1 := (Sir.sortRuns (twoL_alike hΓ hu hL)).run σ _ w2 p
    have e0 : T.S1 σ = SortSt.mk' oneType' (pairsOf (ps.map fun p => Value.ref p.1)) #[] 7 none := by
      show SortSt.mk' _ (T.v1 arr) _ _ _ = _
      rw [hv1]
      rfl
    rw [← e0]
    refine Sem.wp_mono _ _ _ (fun r p' s' h' => ?_) (fun _ _ _ e => e) _ _ w1
    obtain ⟨e1, _, σ', _, e2, hperm, hf, hs⟩ := h'
    refine ⟨e1, by rw [e2]; rfl, ?_⟩
    have hp' : (T.v2 σ'.arr).toList.Perm (ps.map (keyN ps)) := by
      have z := hperm.toList
      rw [hv2] at z
      exact z
    obtain ⟨zs, q1, q2⟩ := perm_map_inv (keyN ps) hp' ps rfl
    have hlen : zs.length = ps.length := q1.length_eq
    refine ⟨zs, q1, fun i j hi hj hij hlt => ?_, ?_⟩
    · have hsz : (T.v2 arr).size = ps.length := by rw [hv2]; simp
      have q3 := hs i j hij (by rw [hsz]; omega)
      have kk : ∀ k (hk : k < zs.length), KK numK (arrOf (T.S2 σ')) k = (rk (ps.map (·.2)) zs[k].2 : Int) := by
        intro k hk
        have : (arrOf (T.S2 σ'))[k]? = some (keyN ps zs[k]) := by
          show (T.v2 σ'.arr)[k]? = _
          rw [← Array.getElem?_toList, q2, List.getElem?_map, List.getElem?_eq_getElem hk]
          rfl
        unfold KK
        rw [this]
        rfl
      rw [kk i hi, kk j hj] at q3
      have q4 : ¬ ((rk (ps.map (·.2)) zs[j].2 : Int) < rk (ps.map (·.2)) zs[i].2) := of_decide_eq_false q3
      have q5 : zs[j].2 ∈ ps.map (·.2) := List.mem_map_of_mem (q1.mem_iff.mp (List.getElem_mem hj))
      have := rk_lt q5 hlt
      omega
    · rw [e2]
      show (T.v1 σ'.arr).map (·.2) = _
      apply Array.toList_inj.mp
      have : (T.v1 σ'.arr).map (·.2) = (T.v2 σ'.arr).map (·.2) := by
        show (Array.map _ _).map _ = (Array.map _ _).map _
        rw [Array.map_map, Array.map_map]
        rfl
      rw [this, Array.toList_map, q2, List.map_map]
      rfl
  · intro q hq
    rw [hv2] at hq
    have hq' : q ∈ ps.map (keyN ps) := hq
    obtain ⟨p, _, rfl⟩ := List.mem_map.mp hq'
    exact ⟨_, rfl⟩
  · rw [hv2]
    simpa using h2
end PyProof.Rows.Sm
set_option Elab.async false
set_option linter.all false
set_option maxHeartbeats 1000000
set_option maxRecDepth 100000
namespace PyProof.Rows.Sm
open PySem PySem.W
set_option autoImplicit false
def Up (zs : List (Addr × List Int)) : Prop := ∀ i j (hi : i < zs.length) (hj : j < zs.length), i ≤ j → ¬ zs[j].2 < zs[i].2
abbrev adr (ps : List (Addr × List Int)) : List Value := ps.map fun p => Value.ref p.1
section
variable {prog : Program} {w : World} {A : Around} {E : Value → Shared → Prop} {s : Shared}
theorem kind_lists {ps : List (Addr × List Int)} {Q : SortKind → Shared → Prop} (hL : Lists s ps) (h2 : 2 ≤ ps.length) (h : Q oneType' s) : wpAny (model prog w) A (keyKind' (adr ps).toArray) Q E s := by
  refine kas_kind (T := .type "list") (by rw [List.length_map]; exact h2) (fun v hv => ?_) (by decide) (by decide) h
  obtain ⟨p, hp, rfl⟩ := List.mem_map.mp hv
  obtain ⟨us, n, h1, _⟩ := hL.at' p hp
  exact fun A' Q' E' s' k q => wpAny_typeOf ⟨_, k _ _ h1, rfl⟩ q
abbrev inSort (h : Heap) (a : Addr) (vs : List Value) : Heap := G.sortHeap6 h a vs
theorem sort_lists {a : Addr} {ps : List (Addr × List Int)} {n : Nat} {P : Fin → Shared → Prop} (hu : A.units < cLine) (ho : s.heap.get? a = some (seqObj "list" (adr ps).toArray n)) (hL : Lists { s with heap := inSort s.heap a (adr ps) } ps) (hz : ps.length ≤ sizeLine)
    (fin : ∀ zs : List (Addr × List Int), zs.Perm ps → Up zs → P (.done (.ret .none)) { s with heap := sortedHeap s.heap a (adr ps) (adr zs).toArray }) :
    wpAny (model prog w) A (Builtin.«list.sort» ⟨[.ref a], []⟩) P E s := by
  have hz2 := hz
  rw [sizeLine_eq] at hz2
  have hvl : (adr ps).toArray.size = ps.length := by simp
  rw [list_sort_plain]
  have la : a < s.heap.objs.size := Heap.lt_size ho
  refine wpAny_bind (listItems_at ho rfl (wpAny_bind (listUpdate_at ho rfl ?_ (by rw [hvl]; exact hz) (Nat.zero_le _))))
  obtain ⟨ep, oe⟩ : ∃ ep, (s.heap.update a (Obj.mapSeq fun _ => #[])).get? a = some (seqObj "list" #[] ep) := ⟨_, get?_update_seq ho (fun _ => #[])⟩
  refine wpAny_bind (seqEpoch_at oe rfl (wpAny_bind (wpAny_newTuple ?_ (by show (adr ps).length ≤ _; rw [List.length_map]; omega))))
  refine wpAny_bind (wpAny_newList (wpAny_holding ?_) (Nat.zero_le _))
  have o6 : (inSort s.heap a (adr ps)).get? a = some (seqObj "list" #[] ep) := by
    show (((s.heap.update a (Obj.mapSeq fun _ => #[])).push _).push _).get? a = _
    rw [Heap.get?_push_ne _ _ _ (by rw [size_push', Heap.size_update]; exact Nat.ne_of_lt (Nat.lt_succ_of_lt la)), Heap.get?_push_ne _ _ _ (by rw [Heap.size_update]; exact Nat.ne_of_lt la), oe]
  show wpAny (model prog w) A _ P E { s with heap := inSort s.heap a (adr ps) }
  dsimp only
  by_cases c : (adr ps).toArray.size < 2
  · rw [if_pos c, if_pos c]
    refine wpAny_bind (wpAny_pure ?_)
    rw [StateT.run_pure]
    refine wpAny_bind (wpAny_pure ?_)
    dsimp only
    have e2 : Array.map (fun x : Keyed => x.2) ((adr ps).toArray.zip (adr ps).toArray) = (adr ps).toArray := by
      apply Array.toList_inj.mp
      rw [Array.toList_map, Array.toList_zip, List.map_snd_zip (Nat.le_refl _)]
    refine wpAny_bind (seqEpoch_at o6 rfl ?_)
    refine wpAny_bind (listUpdate_at o6 rfl ?_ (Nat.zero_le _) (by
      show (Array.map (fun x : Keyed => x.2) ((adr ps).toArray.zip (adr ps).toArray)).size ≤ _
      rw [e2, hvl]; omega))
    simp only [bne_self_eq_false, Bool.false_eq_true, if_false]
    refine wpAny_pure ?_
    have z := fin ps (List.Perm.refl _) (fun i j hi hj hij => by
      have : i = j := by rw [hvl] at c; omega
      subst this
      exact List.lt_irrefl _)
    rw [← e2] at z
    exact z
  · rw [if_neg c, if_neg c]
    have c2 : 2 ≤ ps.length := by rw [hvl] at c; omega
    refine wpAny_bind (kind_lists (s := { s with heap := inSort s.heap a (adr ps) }) hL c2 ?_)
    refine wpAny_bind (wpAny_mono (runs_lists (s := { s with heap := inSort s.heap a (adr ps) }) hu hL c2) ?_ fun _ _ e => e)
    rintro ⟨⟨⟩, st'⟩ s' ⟨rfl, hf, zs, hp, hup, ez⟩
    dsimp only at hf ez ⊢
    refine wpAny_bind (seqEpoch_at o6 rfl ?_)
    refine wpAny_bind (listUpdate_at o6 rfl ?_ (Nat.zero_le _) (by
      show (Array.map (fun x : Keyed => x.2) (arrOf st')).size ≤ _
      rw [ez, List.size_toArray, List.length_map, hp.length_eq]; omega))
    rw [hf]
    simp only [bne_self_eq_false, Bool.false_eq_true, if_false]
    refine wpAny_pure ?_
    have z := fin zs hp hup
    rw [← ez] at z
    exact z
theorem sorted_lists {l : Addr} {ps : List (Addr × List Int)} {Q : Value → Shared → Prop} (hu : A.units + 2 < cLine) (hl : s.heap.IsList l (adr ps).toArray) (hL : Lists s ps) (hz : ps.length ≤ sizeLine)
    (fin : ∀ zs : List (Addr × List Int), zs.Perm ps → Up zs → Q (.ref (s.heap.objs.size + 1)) { s with heap := sortedAll s.heap (adr ps) (adr zs).toArray }) :
    wpAny (model prog w) A (call (.builtin "sorted") [.ref l]) Q E s := by
  have hz2 := hz
  rw [sizeLine_eq] at hz2
  refine Calls.call_function_entry (A := A) kind_sorted plain_sorted entry_sorted (args_sorted1 (.ref l)) ?_
  unfold Builtin.«sorted»
  refine wpAny_bind (m := checkCount "sorted" 1 1 _) (wpAny_pure (wpAny_bind (collect_list hl (wpAny_bind (wpAny_newList ?_ (by show (adr ps).length ≤ _; rw [List.length_map]; omega))))))
  have h1 : ((s.heap.push (seqObj "list" #[] 0)).update s.heap.objs.size (Obj.mapSeq (· ++ (adr ps).toArray))).objs.size = s.heap.objs.size + 1 := by rw [Heap.size_update, size_push']
  have hold : ∀ b o, s.heap.get? b = some o → (((s.heap.push (seqObj "list" #[] 0)).update s.heap.objs.size (Obj.mapSeq (· ++ (adr ps).toArray))).push (seqObj "list" (adr ps).toArray 0)).get? b = some o := fun b o e =>
    Heap.get?_push_of_some _ (by rw [Heap.get?_update_ne _ _ _ _ (Nat.ne_of_lt (Heap.lt_size e))]; exact Heap.get?_push_of_some _ e)
  have hnew : (((s.heap.push (seqObj "list" #[] 0)).update s.heap.objs.size (Obj.mapSeq (· ++ (adr ps).toArray))).push (seqObj "list" (adr ps).toArray 0)).get? (s.heap.objs.size + 1) = some (seqObj "list" (adr ps).toArray 0) := by
    rw [← h1]; exact Heap.get?_push_size _ rfl
  have h6 : Lists { s with heap := inSort (((s.heap.push (seqObj "list" #[] 0)).update s.heap.objs.size (Obj.mapSeq (· ++ (adr ps).toArray))).push (seqObj "list" (adr ps).toArray 0)) (s.heap.objs.size + 1) (adr ps) } ps := ⟨fun p hp => by
    obtain ⟨us, n, e1, e2⟩ := hL.at' p hp
    refine ⟨us, n, Heap.get?_push_of_some _ (Heap.get?_push_of_some _ ?_), e2⟩
    rw [Heap.get?_update_ne _ _ _ _ (Nat.ne_of_lt (Nat.lt_succ_of_lt (Heap.lt_size e1)))]
    exact hold _ _ e1⟩
  show wpAny _ _ _ _ _ { s with heap := ((s.heap.push (seqObj "list" #[] 0)).update s.heap.objs.size (Obj.mapSeq (· ++ (adr ps).toArray))).push (seqObj "list" (adr ps).toArray 0) }
  rw [h1]
  refine wpAny_bind (wpAny_holding (wpAny_call_entry slot_list_sort ⟨_, hnew, rfl⟩ entry_list_sort (sort_lists (by
    show A.units + 1 + 1 < cLine
    omega) hnew h6 hz fun zs p1 p2 => ⟨_, rfl, wpAny_pure ⟨_, rfl, fin zs p1 p2⟩⟩) (args_list_sort _)))
end
end PyProof.Rows.Sm
set_option Elab.async false
set_option linter.all false
set_option maxRecDepth 100000
set_option maxHeartbeats 4000000
namespace L2
open PySem PySem.Spec PyProof.Rows
section
variable {prog : Program} {w : World} {κ : Type} [DecidableEq κ] {knd : HeapKind prog w κ} {A : Around} {E : Value → Shared → Prop} {s : Shared}
theorem setDefaultH {d a : Addr} {xs : List (κ × Addr × Value)} {k : κ} {v : Value} {Q : Value → Shared → Prop} (hu : knd.room A) (hkey : knd.is s.heap k a) (hm : s.heap.DictOfH knd d xs)
    (hT : ∀ u, (atKey xs k).map (·.2) = some u → Q u { s with toks := s.toks + knd.draws k })
    (hQ : atKey xs k = none → ∀ h', h'.DictOfH knd d (storedH xs k a v) → Heap.SameBut d s.heap h' → Q v { s with heap := h', toks := s.toks + knd.draws k })
    (hsz : xs.length ≤ sizeLine) :
    wpAny (model prog w) A (dictSetDefault d (.ref a) v) Q E s := by
  obtain ⟨o, es, ep, ho, hc, hd, he, his, hn⟩ := hm
  unfold dictSetDefault
  try with_reducible refine wpAny_holding ?_
  refine wpAny_bind (knd.pyHash hu hkey ?_)
  refine wpAny_bind (wpAny_dictFind_heap (s := { s with toks := s.toks + knd.draws k }) hu hkey ho hd he his hn ?_ ?_)
  · intro hno
    have hnot : k ∉ xs.map (·.1) := not_mem_keys_of_get hno
    refine wpAny_bind (wpAny_rule (wpAny_bind (wpAny_updateDictKeys (hz := by have e := size_of_entries he; omega) (s := { s with toks := s.toks + knd.draws k }) ho hd (wpAny_pure (hQ (atKey_none_of_get hno) _ ⟨_, _, ep + 1, Heap.get?_update_self _ ho (Obj.isFreed_of_dict (Obj.data_mapDictKeys hd _)),
      hc.mapDictKeys _, Obj.data_mapDictKeys hd _, ?_, ?_, ?_⟩ (Heap.SameBut.update ..))))))
    · rw [storedH_new (atKey_none_of_get hno)]
      simp [he, entryOfKey]
    · rw [storedH_new (atKey_none_of_get hno)]
      intro x hx
      rcases List.mem_append.mp hx with hx | hx
      · exact knd.keeps (his x hx) ho hd (Heap.SameBut.update ..)
      · simp only [List.mem_singleton] at hx
        subst hx
        exact knd.keeps hkey ho hd (Heap.SameBut.update ..)
    · rw [storedH_new (atKey_none_of_get hno)]
      rw [List.map_append, List.nodup_append]
      refine ⟨hn, by simp, ?_⟩
      intro x hx y hy
      simp only [List.map_cons, List.map_nil, List.mem_singleton] at hy
      subst hy
      exact fun e => hnot (e ▸ hx)
  · intro j p hj
    refine wpAny_bind (wpAny_dictEntries (s := { s with toks := s.toks + knd.draws k }) ho hd ?_)
    rw [entry_at he j, hj]
    refine wpAny_bind (wpAny_rule (wpAny_pure (hT p.2 ?_)))
    rw [atKey_of_get hn hj]
    rfl
theorem meetsH_setdefault (knd : HeapKind prog w κ) (d a : Addr) (hd : (d == sysModules) = false) (dflt : Value) :
    MeetsIn prog w (Builtin.«dict.setdefault» ⟨[.ref d, .ref a, dflt], []⟩) (fun A R s => knd.room A.in1 ∧ ∃ k xs, knd.is s.heap k a ∧ s.heap.DictOfH knd d xs ∧ xs.length ≤ sizeLine ∧
      (∀ u, (atKey xs k).map (·.2) = some u → R (.ok (.ret u)) { s with toks := s.toks + knd.draws k }) ∧
      (atKey xs k = none → ∀ h', h'.DictOfH knd d (storedH xs k a dflt) → Heap.SameBut d s.heap h' → R (.ok (.ret dflt)) { s with heap := h', toks := s.toks + knd.draws k })) :=
  .of_wp fun A R s ⟨hu, k, xs, hkey, hm, hz, h1, h2⟩ => by
    unfold Builtin.«dict.setdefault»
    refine wpAny_bind ?_
    unfold Builtin.Dict.keyAndDefault
    refine wpAny_bind (wpAny_notOrdered_dict hm.typeIs ?_)
    show wpAny _ _ (pure (d, Value.ref a, some dflt)) _ _ s
    refine wpAny_pure ?_
    show wpAny _ _ (if (d == sysModules) = true then _ else (dictSetDefault d (.ref a) dflt >>= _)) _ _ s
    rw [if_neg (by rw [hd]; exact Bool.false_ne_true)]
    exact wpAny_bind (setDefaultH hu hkey hm (fun v hv => wpAny_pure ⟨v, rfl, h1 v hv⟩) (fun hn h' hm' hs' => wpAny_pure ⟨dflt, rfl, h2 hn h' hm' hs'⟩) hz)
end
section
variable {κ : Type} [DecidableEq κ] {𝔡 : Dk κ} {X : Cx} {pins : List (Addr × Obj)} {σ : St} {H : Hp} {s : Shared} {a b d : Addr} {v z : V} {r : Value} {k : κ} {kvs : List (κ × V)} {A : Around} {E : Value → Shared → Prop} {ob : Obj}
theorem dd_noDict (I : Inv X pins σ H s) (e : Rd H a (𝔡.ho kvs)) : ∀ b, Value.ref a = .ref b → ∃ ob, s.heap.get? b = some ob ∧ ob.dict = none := fun b q => by
  cases q
  obtain ⟨_, _, xs, _, ob, _, _, h1, h2, _⟩ := dd_rd I.hok e
  exact ⟨ob, h1, h2.2.1⟩
theorem dd_typeR (I : Inv X pins σ H s) (e : Rd H a (𝔡.ho kvs)) : s.TypeIs (.ref a) "dict" := by
  obtain ⟨_, _, xs, _, dd⟩ := dd_rd I.hok e
  exact dd.typeIs
theorem dd_get2 {Q : Value → Shared → Prop} (hu : A.units + 2 < cLine) (I : Inv X pins σ H s) (e : Rd H a (𝔡.ho kvs)) (eb : 𝔡.at' H b k) (rd : RelV z r) (h : ∀ w' s', Inv X pins σ H s' → RelV ((valV kvs k).getD z) w' → Q w' s') :
    wpAny (model X.prog X.w) A (call (.builtin "dict.get") [.ref a, .ref b, r]) Q E s := by
  obtain ⟨_, hd, xs, rel, dd⟩ := dd_rd I.hok e
  refine call_meetsIn PySem.F.slot_dict_get dd.typeIs PySem.F.entry_dict_get (PySem.F.args_dict_get_3 _ _ _) (meetsH_dict_get_default (𝔡.knd X.prog X.w) a b hd r) ⟨𝔡.room hu, k, xs, 𝔡.key I.hok eb, dd, h _ _ (I.tok _) ?_⟩
  exact (rel.val k).getD rd
theorem dd_setdef {Q : Value → Shared → Prop} (hu : A.units + 2 < cLine) (I : Inv X pins σ H s) (e : H a = some (𝔡.ho kvs)) (eb : 𝔡.at' H b k) (l : kvs.length < sizeLine) (rd : RelV z r)
    (h1 : ∀ v u s', valV kvs k = some v → Inv X pins σ H s' → RelV v u → Q u s') (h2 : valV kvs k = none → ∀ s', Inv X pins σ (upd H a (𝔡.ho (putK kvs k z))) s' → Q r s') :
    wpAny (model X.prog X.w) A (call (.builtin "dict.setdefault") [.ref a, .ref b, r]) Q E s := by
  obtain ⟨zz, hd, xs, rel, dd⟩ := dd_rd I.hok (.inl e)
  have hz : xs.length ≤ sizeLine := by rw [← Paired.length rel]; exact zz
  refine call_meetsIn PySem.F.slot_dict_setdefault dd.typeIs PySem.F.entry_dict_setdefault (PySem.F.args_dict_setdefault_3 _ _ _) (meetsH_setdefault (𝔡.knd X.prog X.w) a b hd r) ⟨𝔡.room hu, k, xs, 𝔡.key I.hok eb, dd, hz, fun u hu' => ?_, fun hno h' dd' hs => ?_⟩
  · have rv := rel.val k
    rw [hu'] at rv
    cases hv : valV kvs k with
    | none => rw [hv] at rv; exact rv.elim
    | some v => rw [hv] at rv; exact h1 v u _ hv (I.tok _) rv
  · have rv := rel.val k
    rw [hno] at rv
    cases hv : valV kvs k with
    | none => exact h2 hv _ (dd_new I e eb l rel hd rd dd' hs)
    | some v => rw [hv] at rv; exact rv.elim
end
section
variable {κ : Type} [DecidableEq κ]
def tDdNew (𝔡 : Dk κ) : TE := fun _ H Q => ∀ p, H p = none → Q (.ref p) (upd H p (𝔡.ho []))
def tDdGet2 (𝔡 : Dk κ) (td ty tx : TE) : TE := fun σ H Q => td σ H fun x H1 => ∃ a, x = .ref a ∧ (∃ kvs, H1 a = some (𝔡.ho kvs)) ∧ ty σ H1 fun y H2 => tx σ H2 fun z H3 => ∃ b k kvs, y = .ref b ∧ 𝔡.at' H3 b k ∧ H3 a = some (𝔡.ho kvs) ∧ Q ((valV kvs k).getD z) H3
def tDdSet (𝔡 : Dk κ) (td ty tx : TE) : TE := fun σ H Q => td σ H fun x H1 => ∃ a, x = .ref a ∧ (∃ kvs, H1 a = some (𝔡.ho kvs)) ∧ ty σ H1 fun y H2 => tx σ H2 fun z H3 => ∃ b k kvs, y = .ref b ∧ 𝔡.at' H3 b k ∧ H3 a = some (𝔡.ho kvs) ∧ kvs.length < sizeLine ∧
  (∀ v, valV kvs k = some v → Q v H3) ∧ (valV kvs k = none → Q z (upd H3 a (𝔡.ho (putK kvs k z))))
def sDdPut (𝔡 : Dk κ) (td ty tv : TE) : TS := fun D σ H => tv σ H fun v H1 => td σ H1 fun x H2 => ty σ H2 fun y H3 => ∃ a b k kvs, x = .ref a ∧ y = .ref b ∧ 𝔡.at' H3 b k ∧ H3 a = some (𝔡.ho kvs) ∧ kvs.length < sizeLine ∧ D.nx σ (upd H3 a (𝔡.ho (putK kvs k v)))
variable {𝔡 : Dk κ} {X : Cx} {o i e f value : Expr} {pos pos' tpos apos cpos : Pos} {td ty tv tx : TE}
theorem pe_ddnew : PE X (.Dict [] [] pos) (tDdNew 𝔡) := fun pins s σ H Q I h =>
  wpAny_Dict_empty ⟨.ref s.heap.objs.size, _, I.laid (a := s.heap.objs.size) (o := 𝔡.ho []) (t' := s.toks) (fun _ _ q => Heap.get?_push_of_some _ q) (Nat.le_refl _) (𝔡.empty s.heap I.big), rfl, h _ (I.hok.fresh (Nat.le_refl _))⟩
theorem pe_ddget2 (hu : X.A.units + 2 < cLine) (ho : PE X o td) (he : PE X e ty) (hf : PE X f tx) (m : M2 X o "get" apos e f cpos) : PE X (.Call (.Attribute o "get" apos) [e, f] [] cpos) (tDdGet2 𝔡 td ty tx) := by
  intro pins s σ H Q I h
  refine wpAny_Call_method m.base m.few m.line PySem.F.plainAttrs_dict PySem.F.slot_dict_get PySem.F.type_dict_get (thn (ho pins s σ H _ I h) fun u s1 ⟨x, H1, I1, rx, a, ex, ⟨kvs, d⟩, q1⟩ => ?_)
  subst ex
  obtain rfl : u = Value.ref a := rx
  refine ⟨dd_typeR I1 (.inl d), dd_noDict I1 (.inl d), ?_⟩
  rw [m.trees]
  refine Calls.callWith_builtin rfl (Calls.evalArgs_plain (Calls.spliced_cons (thn (he pins s1 σ H1 _ I1 q1) fun iv s2 ⟨y, H2, I2, ry, q2⟩ =>
    Calls.spliced_cons (thn (hf pins s2 σ H2 _ I2 q2) fun fv s3 ⟨z, H3, I3, rz, b, k, kvs', ey, eb, ea, q3⟩ => Calls.spliced_nil ?_))))
  subst ey
  obtain rfl : iv = Value.ref b := ry
  exact dd_get2 hu I3 (.inl ea) eb rz fun w' s4 I4 rw' => ⟨_, H3, I4, rw', q3⟩
theorem pe_ddset (hu : X.A.units + 2 < cLine) (ho : PE X o td) (he : PE X e ty) (hf : PE X f tx) (m : M2 X o "setdefault" apos e f cpos) : PE X (.Call (.Attribute o "setdefault" apos) [e, f] [] cpos) (tDdSet 𝔡 td ty tx) := by
  intro pins s σ H Q I h
  refine wpAny_Call_method m.base m.few m.line PySem.F.plainAttrs_dict PySem.F.slot_dict_setdefault PySem.F.type_dict_setdefault (thn (ho pins s σ H _ I h) fun u s1 ⟨x, H1, I1, rx, a, ex, ⟨kvs, d⟩, q1⟩ => ?_)
  subst ex
  obtain rfl : u = Value.ref a := rx
  refine ⟨dd_typeR I1 (.inl d), dd_noDict I1 (.inl d), ?_⟩
  rw [m.trees]
  refine Calls.callWith_builtin rfl (Calls.evalArgs_plain (Calls.spliced_cons (thn (he pins s1 σ H1 _ I1 q1) fun iv s2 ⟨y, H2, I2, ry, q2⟩ =>
    Calls.spliced_cons (thn (hf pins s2 σ H2 _ I2 q2) fun fv s3 ⟨z, H3, I3, rz, b, k, kvs', ey, eb, ea, l, q3, q4⟩ => Calls.spliced_nil ?_))))
  subst ey
  obtain rfl : iv = Value.ref b := ry
  exact dd_setdef hu I3 ea eb l rz (fun v u s4 hv I4 rv => ⟨v, H3, I4, rv, q3 v hv⟩) fun hv s4 I4 => ⟨z, _, I4, rz, q4 hv⟩
theorem ps_ddput (hu : X.A.units + 2 < cLine) (ho : PE X o td) (hi : PE X i ty) (hv : PE X value tv) (hs : swapsWith value (some (.Subscript o i pos')) pos.line X.env = pure false) :
    PS X (.Assign [.Subscript o i pos'] value pos) (sDdPut 𝔡 td ty tv) := by
  intro pins s σ H D I h
  refine wpAny_Assign_Subscript (thn (hv pins s σ H _ I h) fun r s1 ⟨v, H1, I1, rv, q1⟩ => thn (ho pins s1 σ H1 _ I1 q1) fun u s2 ⟨x, H2, I2, rx, q2⟩ => thn (hi pins s2 σ H2 _ I2 q2) fun iv s3 ⟨y, H3, I3, ry, a, b, k, kvs, ex, ey, eb, ea, l, q3⟩ => ?_) hs
  subst ex ey
  obtain rfl : u = Value.ref a := rx
  obtain rfl : iv = Value.ref b := ry
  exact dd_setItem hu I3 ea eb l rv fun s4 I4 => ⟨σ, _, I4, q3⟩
end
section
variable {κ : Type} [DecidableEq κ] {𝔡 : Dk κ}
theorem Inv.frzD {X : Cx} {pins : List (Addr × Obj)} {σ : St} {H : Hp} {s : Shared} {d : Addr} {o : Obj} {kvs : List (κ × V)} (I : Inv X pins σ H s) (h : H d = some (.frz o (𝔡.ho kvs))) :
    (d == sysModules) = false ∧ s.heap.get? d = some o ∧ o.ExactDict ∧ ∃ (es : Array DictEntry) (ep : Nat), o.data = .dict es ep ∧ es.size = kvs.length ∧
      ∀ (i : Nat) (k : κ) (v : V), kvs[i]? = some (k, v) → ∃ (en : DictEntry) (q : Addr), es[i]? = some en ∧ en.key = .ref q ∧ 𝔡.at' H q k := by
  obtain ⟨hd, obk⟩ := I.hok d _ h
  obtain ⟨z, hs, xs, pr, o', es, ep, ho, hx, hdt, he, _⟩ := (𝔡.ok _ _ _ _ _ _).mp obk
  rw [hd] at ho
  cases ho
  refine ⟨hs, hd, hx, es, ep, hdt, ?_, fun i k v e => ?_⟩
  · have l1 : es.size = xs.length := size_of_entries he
    have l2 : kvs.length = xs.length := Paired.length pr
    omega
  · obtain ⟨b, hb, e1, e2, _⟩ := paired_get pr e
    have q := entry_at he i
    rw [hb] at q
    exact ⟨_, b.2.1, q, rfl, e2⟩
def Itkd (𝔡 : Dk κ) (d : Addr) (o : Obj) (kvs : List (κ × V)) : It :=
  ⟨fun i H => H d = some (.frz o (𝔡.ho kvs)) ∧ i < kvs.length, fun i H x H' => H' = H ∧ ∃ (k : κ) (v : V) (q : Addr), kvs[i]? = some (k, v) ∧ x = .ref q ∧ 𝔡.at' H q k, fun i H => H d = some (.frz o (𝔡.ho kvs)) ∧ kvs.length ≤ i⟩
theorem turn_keysD {P : Program} {w : World} {K : PySem.W.Frag} {tg : Expr} {d : Addr} {o : Obj} {es : Array DictEntry} {ep : Nat} {kvs : List (κ × V)} (it : Addr) (hod : o.data = .dict es ep) : Turn P w K tg (Itkd 𝔡 d o kvs) [it] it (fun i h => h.IsKeyIter it d i kvs.length ep) where
  mem := by simp
  obj := fun i h st b hb => by
    have e : b = it := by simpa using hb
    subst e
    obtain ⟨oi, e, c, dd⟩ := st
    exact ⟨oi, e, fun v z => by rw [dd] at z; cases z⟩
  keep := fun i h h' st k => st.at fun oi e => k it (by simp) oi e
  item := by
    intro X hP hw hK hc i pins s σ H E I hf st hg
    subst hP hw hK
    obtain ⟨hd, hi⟩ := hg
    obtain ⟨f0, f1, f2, f3, f4, f5⟩ := hf it (by simp)
    obtain ⟨hs, hgd, hx, es', ep', hdt, hsz, ent⟩ := I.frzD hd
    obtain ⟨rfl, rfl⟩ := dict_ep hod hdt
    obtain ⟨⟨k, v⟩, hkv⟩ : ∃ p, kvs[i]? = some p := ⟨kvs[i], List.getElem?_eq_getElem hi⟩
    obtain ⟨en, q, hen, hkey, hq⟩ := ent i k v hkv
    refine next_key_item st hgd hdt hsz hen fun h' st' sb => ?_
    have I1 : Inv X pins σ H { s with heap := h' } := I.turned (t' := s.toks) (fun b ob hb e => (sb.2 b hb).trans e) f0 f1 f3 f4 f5
    obtain ⟨oi, e, c, dd⟩ := id st'
    exact ⟨en.key, rfl, go_of (s := { s with heap := h' }) e c dd (by decide) ⟨.ref q, H, I1, hkey, ⟨rfl, k, v, q, hkv, rfl, hq⟩, st', fun b hb => (hf b hb).1⟩⟩
  done := by
    intro X hP hw hK hc i pins s σ H E I hf st hg
    subst hP hw hK
    obtain ⟨hd, hi⟩ := hg
    obtain ⟨f0, f1, f2, f3, f4, f5⟩ := hf it (by simp)
    obtain ⟨hs, hgd, hx, es', ep', hdt, hsz, ent⟩ := I.frzD hd
    obtain ⟨rfl, rfl⟩ := dict_ep hod hdt
    exact next_key_end (I.ok.hd hc) st hgd hdt hsz hi fun h' eb => ⟨rfl, I.turned (t' := s.toks) (fun b ob hb e => eb b ob hb e) f0 f1 f3 f4 f5⟩
  self := fun A i s Q E st h => by
    refine wpAny_pyIter_slot st.typeIs F.slot_dict_keyiterator_iter (wpAny_call_entry F.slot_dict_keyiterator_iter st.typeIs F.entry_dict_keyiterator_iter ?_ (F.args_dict_keyiterator_iter_1 _))
    show wpAny _ _ (ret (.ref it)) _ _ s
    exact wpAny_pure ⟨_, rfl, "dict_keyiterator", _, st.typeIs, F.slot_dict_keyiterator_next.lookup, h⟩
def iKeysD (𝔡 : Dk κ) (td : TE) : TI := fun σ H R => td σ H fun x H1 => ∃ d o kvs, x = .ref d ∧ H1 d = some (.frz o (𝔡.ho kvs)) ∧ R (Itkd 𝔡 d o kvs) H1
theorem pi_keysD {X : Cx} {tg e : Expr} {td : TE} (he : PE X e td) : PI X tg e (iKeysD 𝔡 td) := by
  intro pins s σ H R I h
  refine thn (he pins s σ H _ I h) fun u s1 ⟨x, H1, I1, rx, d, o, kvs, ex, hd, q⟩ => ?_
  subst ex
  obtain rfl : u = Value.ref d := rx
  obtain ⟨hs, hgd, hx, es, ep, hdt, hsz, ent⟩ := I1.frzD hd
  refine iter_keys hs hgd hx hdt (pi_one (tk := s1.toks) I1 _ (turn_keysD _ hdt) ⟨_, Heap.get?_push_size _ rfl, rfl, ?_⟩ q)
  rw [hsz] <;> rfl
end
theorem refs_of_vals : ∀ {bs : List Addr} {us : List Value}, Vals (bs.map V.ref) us → us = bs.map Value.ref
  | [], _, r => by cases r; rfl
  | b :: bs, _, r => by
    cases r with
    | cons r1 r2 => rw [refs_of_vals r2, show _ = Value.ref b from r1]; rfl
theorem vals_ints_items : ∀ {ns : List Int} {us : List Value} (i : Nat), Vals (ns.map V.int) us → ∃ l, PyProof.Rows.tupItems (fun _ => false) i us = some l
  | [], _, i, r => by cases r; exact ⟨[], rfl⟩
  | n :: ns, _, i, r => by
    cases r with
    | cons r1 r2 =>
      obtain ⟨t, rfl⟩ := r1
      obtain ⟨l, hl⟩ := vals_ints_items (i + 1) r2
      exact ⟨Sum.inl n :: l, by simp [PyProof.Rows.tupItems, hl]⟩
def rSortedT1 (K : PySem.W.Frag) : List V → Hp → VK → Prop := fun vs H Q => ∃ (a : Addr) (bs : List Addr) (nss : List (List Int)), vs = [V.ref a] ∧ SqL K H a (bs.map V.ref) ∧ Paired (fun b (ns : List Int) => SqT K H b (ns.map V.int) ∧ ns ≠ []) bs nss ∧
  ∀ (bs' : List Addr) (p : Addr), bs'.Perm bs → H p = none → Q (.ref p) (upd H p (.lst (bs'.map V.ref)))
def rSortedL (K : PySem.W.Frag) : List V → Hp → VK → Prop := fun vs H Q => ∃ (a : Addr) (ps : List (Addr × List Int)), vs = [V.ref a] ∧ SqL K H a ((ps.map (·.1)).map V.ref) ∧ (∀ p ∈ ps, H p.1 = some (.lst (p.2.map V.int))) ∧
  ∀ (zs : List (Addr × List Int)) (q : Addr), zs.Perm ps → PyProof.Rows.Sm.Up zs → H q = none → Q (.ref q) (upd H q (.lst ((zs.map (·.1)).map V.ref)))
def rSortedT (K : PySem.W.Frag) : List V → Hp → VK → Prop := fun vs H Q => rSortedT1 K vs H Q ∨ rSortedL K vs H Q
theorem perm_refs {l : List Value} {bs : List Addr} (h : l.Perm (bs.map Value.ref)) : ∃ bs' : List Addr, l = bs'.map Value.ref ∧ bs'.Perm bs := by
  let un : Value → Addr := fun v => match v with | .ref a => a | _ => 0
  have e : ∀ v ∈ l, v = Value.ref (un v) := fun v hv => by
    obtain ⟨b, _, rfl⟩ := List.mem_map.mp (h.mem_iff.mp hv)
    rfl
  refine ⟨l.map un, ?_, ?_⟩
  · rw [List.map_map]
    symm
    calc l.map (Value.ref ∘ un) = l.map id := List.map_congr_left fun v hv => (e v hv).symm
      _ = l := List.map_id l
  · have := h.map un
    rw [List.map_map] at this
    have z : (bs.map (un ∘ Value.ref)) = bs := by
      have : un ∘ Value.ref = id := rfl
      rw [this, List.map_id]
    rw [z] at this
    exact this
theorem ints_of_vals : ∀ {ns : List Int} {us : List Value}, Vals (ns.map V.int) us → PyProof.Rows.IntsAre us ns
  | [], _, r => by cases r; exact .nil
  | n :: ns, _, r => by
    cases r with
    | cons r1 r2 =>
      obtain ⟨t, rfl⟩ := r1
      exact .cons n t (ints_of_vals r2)
theorem cr_sortedL {X : Cx} (hu : X.A.units + 64 < cLine) : CallR X (.builtin "sorted") (rSortedL X.K) := by
  intro pins s σ H vs us Q I r h
  obtain ⟨a, ps, rfl, hs, hp, q⟩ := h
  obtain ⟨its, rv, hl, hz⟩ := I.list hs
  rw [Vals.ref1 r]
  obtain rfl := refs_of_vals rv
  have el : ∀ zs : List (Addr × List Int), (zs.map (·.1)).map Value.ref = PyProof.Rows.Sm.adr zs := fun zs => by rw [List.map_map]; rfl
  have hlen : ps.length ≤ sizeLine := by
    rw [List.length_map, List.length_map] at hz
    exact hz
  have hL : PyProof.Rows.Sm.Lists s ps := ⟨fun p hq => by
    obtain ⟨_, its, n, r', e⟩ := I.hok _ _ (hp p hq)
    exact ⟨its, n, e, ints_of_vals r'⟩⟩
  rw [el] at hl
  refine PyProof.Rows.Sm.sorted_lists (by omega) hl.isList hL hlen fun zs h1 h2 => ?_
  obtain ⟨ep, he'⟩ := PyProof.Rows.sortedAll_at s.heap (PyProof.Rows.Sm.adr ps) (PyProof.Rows.Sm.adr zs).toArray
  have hlen' : ((zs.map (·.1)).map V.ref).length ≤ sizeLine := by
    rw [List.length_map, List.length_map, h1.length_eq]
    exact hlen
  have hv : Vals ((zs.map (·.1)).map V.ref) (PyProof.Rows.Sm.adr zs) := by
    rw [← el]
    exact vals_refs _
  exact ⟨.ref _, upd H (s.heap.objs.size + 1) (.lst ((zs.map (·.1)).map V.ref)), I.laid (t' := s.toks) (fun _ _ => PyProof.Rows.sortedAll_old) (Nat.le_succ _) ⟨hlen', PyProof.Rows.Sm.adr zs, ep, hv, he'⟩, rfl, q zs _ h1 h2 (I.hok.fresh (Nat.le_succ _))⟩
theorem cr_sortedT1 {X : Cx} : CallR X (.builtin "sorted") (rSortedT1 X.K) := by
  intro pins s σ H vs us Q I r h
  obtain ⟨a, bs, nss, rfl, hs, hp, q⟩ := h
  obtain ⟨its, rv, hl, hz⟩ := I.list hs
  rw [Vals.ref1 r]
  obtain rfl := refs_of_vals rv
  have tups : ∀ {bs : List Addr} {nss : List (List Int)}, Paired (fun b (ns : List Int) => SqT X.K H b (ns.map V.int) ∧ ns ≠ []) bs nss → ∃ fs, PyProof.Rows.TupsOf s.heap (fun _ => false) (bs.map Value.ref) fs ∧ ∀ v ∈ bs.map Value.ref, ∃ l, PyProof.Rows.G.tupKeyC s.heap (fun _ => false) v = some l := by
    intro bs nss p
    induction p with
    | nil => exact ⟨[], .nil, fun v hv => nomatch hv⟩
    | @cons b ns bs nss hb _ ih =>
      obtain ⟨fs, h1, h2⟩ := ih
      obtain ⟨hb, hne⟩ := hb
      obtain ⟨us, ru, ht, _⟩ := I.tuple hb
      obtain ⟨o, ho, hc, n, hd⟩ := ht
      cases ns with
      | nil => exact absurd rfl hne
      | cons n0 ns =>
        cases ru with
        | @cons _ u _ us r1 r2 =>
          obtain ⟨t, rfl⟩ := r1
          refine ⟨.int n0 t :: fs, .cons ⟨b, o, _, n, rfl, ho, hc, hd, rfl, fun _ => ⟨n0, t, rfl⟩, fun z => nomatch z⟩ h1, fun v hv => ?_⟩
          rcases List.mem_cons.mp hv with rfl | hv
          · obtain ⟨l, hl⟩ := vals_ints_items (ns := n0 :: ns) 0 (.cons ⟨t, rfl⟩ r2)
            refine ⟨l, ?_⟩
            unfold PyProof.Rows.G.tupKeyC
            rw [if_pos (by simp [PyProof.Rows.G.isTupObj, ho, hc])]
            simp only [PyProof.Rows.tupKey, ho, hd]
            exact hl
          · exact h2 v hv
  obtain ⟨fs, ht, hk⟩ := tups hp
  have hlen : (bs.map Value.ref).length ≤ sizeLine := by
    have := hz
    rw [List.length_map] at this ⊢
    exact this
  refine PyProof.Rows.G.sorted_tups hl.isList ht hk hlen fun st' h1 _ _ => ?_
  have hperm : (((PyProof.Rows.arrOf st').map (·.2)).toList).Perm (bs.map Value.ref) := by
    have z := h1.toList.map (·.2)
    rw [Array.toList_map]
    refine z.trans ?_
    rw [PyProof.Rows.pairsOf_toList, List.map_snd_zip]
    exact Nat.le_refl _
  obtain ⟨bs', e1, e2⟩ := perm_refs hperm
  obtain ⟨ep, he'⟩ := PyProof.Rows.sortedAll_at s.heap (bs.map Value.ref) ((PyProof.Rows.arrOf st').map (·.2))
  have hlen' : (bs'.map V.ref).length ≤ sizeLine := by
    rw [List.length_map, e2.length_eq]
    rwa [List.length_map] at hlen
  have hv : Vals (bs'.map V.ref) ((PyProof.Rows.arrOf st').map (·.2)).toList := by
    rw [e1]
    exact vals_refs bs'
  refine ⟨.ref _, upd H (s.heap.objs.size + 1) (.lst (bs'.map V.ref)), I.laid (t' := s.toks) (fun _ _ => PyProof.Rows.sortedAll_old) (Nat.le_succ _) ⟨hlen', ((PyProof.Rows.arrOf st').map (·.2)).toList, ep, hv, he'⟩, rfl, q bs' _ e2 (I.hok.fresh (Nat.le_succ _))⟩
theorem cr_sortedT {X : Cx} (hu : X.A.units + 64 < cLine) : CallR X (.builtin "sorted") (rSortedT X.K) := by
  intro pins s σ H vs us Q I r h
  rcases h with h | h
  · exact cr_sortedT1 pins s σ H vs us Q I r h
  · exact cr_sortedL hu pins s σ H vs us Q I r h
end L2
set_option Elab.async false
set_option linter.all false
set_option maxRecDepth 100000
set_option maxHeartbeats 4000000
namespace L2
open PySem PySem.Spec PyProof.Rows
section
variable {X : Cx}
theorem op_isB : OpR X (compareOp .Is) (fun x y H Q => ∃ a b, x = .bl a ∧ y = .bl b ∧ Q (.bl (a == b)) H) := by
  intro pins s σ H x y v u Q I rx ry h
  obtain ⟨a, b, rfl, rfl, q⟩ := h
  cases rx
  cases ry
  exact PyProof.Rows.is_bool ⟨.bl _, H, I, rfl, q⟩
theorem op_isnotB : OpR X (compareOp .IsNot) (fun x y H Q => ∃ a b, x = .bl a ∧ y = .bl b ∧ Q (.bl (a != b)) H) := by
  intro pins s σ H x y v u Q I rx ry h
  obtain ⟨a, b, rfl, rfl, q⟩ := h
  cases rx
  cases ry
  exact PyProof.Rows.isnot_bool ⟨.bl _, H, I, rfl, q⟩
def rCountB : V → List V → Hp → VK → Prop := fun x vs H Q => ∃ l bs b, x = .ref l ∧ vs = [V.bl b] ∧ H l = some (.lst ((bs : List Bool).map V.bl)) ∧ Q (.int ((bs.countP (· == b) : Nat) : Int)) H
theorem countU (b : Bool) : ∀ {bs : List Bool} {us : List Value}, Vals (bs.map V.bl) us → us.countP (eqU (.bl b)) = bs.countP (· == b)
  | [], _, r => by cases r; rfl
  | c :: bs, _, r => by
    cases r with
    | cons r1 r2 =>
      rw [List.countP_cons, List.countP_cons, countU b r2]
      cases r1
      cases b <;> cases c <;> rfl
theorem flat_bls (bs : List Bool) : (bs.map V.bl).all flatV = true := by
  rw [List.all_map, List.all_eq_true]
  intro x _
  rfl
theorem mt_countB : MtM X "list.count" rCountB := by
  intro pins s σ H x vs v us Q I rx rv h
  obtain ⟨l, bs, b, rfl, rfl, hH, q⟩ := h
  cases rx
  obtain ⟨u, rfl, ru⟩ := rv.one
  obtain ⟨z, its, n, r, hl, e⟩ := I.lstM hH
  refine call_meets F.slot_list_count ⟨_, e, rfl⟩ F.entry_list_count (F.args_list_count_2 _ _) (SeqAt.list_countAt l its.toArray n none #[] u (eqU (.bl b))) ⟨e, fun y hy => mem_eqAt ru rfl r (flat_bls bs) y (by simpa using hy), ?_⟩
  refine ⟨.int _, H, I.tok _, ⟨_, rfl⟩, ?_⟩
  rw [show its.toArray.toList = its by simp, countU b r]
  exact q
open Classical in
noncomputable def eqL (H : Hp) (x : List Int) (u : Value) : Bool := match u with
  | .ref b => decide (H b = some (.lst (x.map V.int)))
  | _ => false
def rInL (K : PySem.W.Frag) (neg : Bool) : R2 := fun x y H Q => ∃ (p q : Addr) (bs : List Addr) (m : List (List Int)) (ns : List Int), x = .ref q ∧ y = .ref p ∧ H q = some (.lst (ns.map V.int)) ∧ SqL K H p (bs.map V.ref) ∧ Paired (fun b (ms : List Int) => H b = some (.lst (ms.map V.int))) bs m ∧ Q (.bl (if neg then !decide (ns ∈ m) else decide (ns ∈ m))) H
theorem dI_all (K : PySem.W.Frag) (H : Hp) : ∀ (ns : List Int), DpAll K H (ns.map V.int) (ns.map PyData.int)
  | [] => .nil
  | n :: ns => .cons (.int n) (dI_all K H ns)
theorem dI_lay : ∀ (ns : List Int), PyData.canLayAll0 (ns.map PyData.int) = true
  | [] => rfl
  | n :: ns => by simpa [PyData.canLayAll0, PyData.canLay0] using dI_lay ns
theorem dI_dep : ∀ (ns : List Int), PyData.depthAll (ns.map PyData.int) = 0
  | [] => rfl
  | n :: ns => by simp [PyData.depthAll, PyData.depth, dI_dep ns]
theorem dI_eqv : ∀ (x y : List Int), PyData.eqvAll (x.map PyData.int) (y.map PyData.int) = decide (x = y)
  | [], [] => by simp [PyData.eqvAll]
  | [], _ :: _ => by simp [PyData.eqvAll]
  | _ :: _, [] => by simp [PyData.eqvAll]
  | a :: x, b :: y => by
    have ih := dI_eqv x y
    simp only [List.map_cons, PyData.eqvAll, ih, PyData.eqv]
    rw [Bool.eq_iff_iff]
    simp
theorem int_inj {x y : List Int} (h : x.map V.int = y.map V.int) : x = y := by
  induction x generalizing y with
  | nil => cases y with | nil => rfl | cons _ _ => cases h
  | cons a x ih =>
    cases y with
    | nil => cases h
    | cons b y =>
      rw [List.map_cons, List.map_cons] at h
      injection h with h1 h2
      injection h1 with h1
      rw [h1, ih h2]
theorem eqL_at {H : Hp} {b : Addr} {x y : List Int} (h : H b = some (.lst (y.map V.int))) : eqL H x (.ref b) = decide (y = x) := by
  rw [Bool.eq_iff_iff]
  simp only [eqL, h, decide_eq_true_eq, Option.some.injEq, HO.lst.injEq]
  exact ⟨int_inj, fun z => by rw [z]⟩
theorem eqAt_lists {pins : List (Addr × Obj)} {σ : St} {H : Hp} {s : Shared} {A : Around} (I : Inv X pins σ H s) (hu : A.units + 1 < cLine) {b q : Addr} {x y : List Int} (hb : H b = some (.lst (y.map V.int))) (hq : H q = some (.lst (x.map V.int))) : SeqAt.EqAt A s (.ref b) (.ref q) (eqL H x (.ref b)) := by
  obtain ⟨as, r1⟩ := Dp.reads I (.list (y.map PyData.int)) (.ref b) (.ref b) (.lst (SqL.of hb) (dI_all X.K H y)) rfl
  obtain ⟨bs, r2⟩ := Dp.reads I (.list (x.map PyData.int)) (.ref q) (.ref q) (.lst (SqL.of hq) (dI_all X.K H x)) rfl
  have z := SeqAt.eqAt_reads _ _ A s _ _ _ _ r1 r2 (dI_lay y) (dI_lay x) (by
    show A.units + min (PyData.depthAll (y.map PyData.int) + 1) (PyData.depthAll (x.map PyData.int) + 1) < cLine
    rw [dI_dep, dI_dep]
    simp
    omega)
  have e : PyData.eqv (.list (y.map PyData.int)) (.list (x.map PyData.int)) = eqL H x (.ref b) := by
    rw [eqL_at hb]
    exact dI_eqv y x
  rw [e] at z
  exact z
theorem anyL {H : Hp} {x : List Int} : ∀ {bs : List Addr} {m : List (List Int)}, Paired (fun b (ms : List Int) => H b = some (.lst (ms.map V.int))) bs m → (bs.map Value.ref).any (eqL H x) = decide (x ∈ m)
  | _, _, .nil => by simp
  | _, _, .cons (a := b) (b := y) r t => by
    rw [List.map_cons, List.any_cons, anyL t, eqL_at r, Bool.eq_iff_iff]
    simp only [Bool.or_eq_true, decide_eq_true_eq, List.mem_cons]
    constructor
    · rintro (h | h)
      · exact .inl h.symm
      · exact .inr h
    · rintro (h | h)
      · exact .inl h.symm
      · exact .inr h
theorem op_inL (hu : X.A.units + 64 < cLine) : OpR X (compareOp .In) (rInL X.K false) := by
  intro pins s σ H x y v u Q I rx ry h
  obtain ⟨p, q, bs, m, ns, rfl, rfl, hq, hp, pr, k⟩ := h
  cases rx
  cases ry
  obtain ⟨its, r, pl, hz⟩ := I.list hp
  obtain rfl := refs_of_vals r
  have all : ∀ {bs : List Addr} {m : List (List Int)}, Paired (fun b (ms : List Int) => H b = some (.lst (ms.map V.int))) bs m → ∀ u ∈ bs.map Value.ref, SeqAt.EqAt X.A.in1 s u (.ref q) (eqL H ns u) := by
    intro bs m pr
    induction pr with
    | nil => exact fun u hu => nomatch hu
    | cons hb _ ih =>
      intro u hm
      rcases List.mem_cons.mp hm with rfl | hm
      · exact eqAt_lists I (by rw [Around.in1_units]; omega) hb hq
      · exact ih u hm
  refine SeqAt.in_listAt (eqL H ns) pl.isList (fun w hw => all pr w (by simpa using hw)) ⟨.bl _, H, I, rfl, ?_⟩
  rw [show (bs.map Value.ref).toArray.any (eqL H ns) = (bs.map Value.ref).any (eqL H ns) by simp, anyL pr]
  exact k
theorem op_notInL (hu : X.A.units + 64 < cLine) : OpR X (compareOp .NotIn) (rInL X.K true) := by
  intro pins s σ H x y v u Q I rx ry h
  obtain ⟨p, q, bs, m, ns, rfl, rfl, hq, hp, pr, k⟩ := h
  cases rx
  cases ry
  obtain ⟨its, r, pl, hz⟩ := I.list hp
  obtain rfl := refs_of_vals r
  have all : ∀ {bs : List Addr} {m : List (List Int)}, Paired (fun b (ms : List Int) => H b = some (.lst (ms.map V.int))) bs m → ∀ u ∈ bs.map Value.ref, SeqAt.EqAt X.A.in1 s u (.ref q) (eqL H ns u) := by
    intro bs m pr
    induction pr with
    | nil => exact fun u hu => nomatch hu
    | cons hb _ ih =>
      intro u hm
      rcases List.mem_cons.mp hm with rfl | hm
      · exact eqAt_lists I (by rw [Around.in1_units]; omega) hb hq
      · exact ih u hm
  refine SeqAt.notIn_listAt (eqL H ns) pl.isList (fun w hw => all pr w (by simpa using hw)) ⟨.bl _, H, I, rfl, ?_⟩
  rw [show (bs.map Value.ref).toArray.any (eqL H ns) = (bs.map Value.ref).any (eqL H ns) by simp, anyL pr]
  exact k
def rLRange : V → Hp → VK → Prop := fun x H Q => ∃ n : Nat, x = .int n ∧ n ≤ 1000000 ∧ ∀ p, H p = none → Q (.ref p) (upd H p (.lst ((List.range n).map fun i => V.int (i : Nat))))
theorem pe_lrange {a : Expr} {ta : TE} {p p2 pos pos2 : Pos} (hc : X.calm = true) (hg : Gl X "list") (hm : X.mg "list" = none) (hg2 : Gl X "range") (hm2 : X.mg "range" = none) (ha : PE X a ta) (hs : starEach [a] X.env = [(false, eval a X.env)]) :
    PE X (.Call (.Name "list" p) [.Call (.Name "range" p2) [a] [] pos2] [] pos) (fun σ H Q => ta σ H fun x H1 => rLRange x H1 Q) := by
  intro pins s σ H Q I h
  have hpa : PA X [a] (tCons ta tNil) := pa_cons ha pa_nil hs
  refine wpAny_Call_Name_kw (ld_blt I hg hm (show bootBuiltins "list" = some (.type "list") by decide +kernel) ?_ (by decide) (by decide))
  refine PyProof.Rows.callWith_type1 ?_ rfl rfl
  refine Calls.spliced_cons ?_
  refine Call_ (ld_blt I hg2 hm2 boot_range (PyProof.Rows.callWith_type1 (thn (hpa pos2 pins s σ H (fun vs H1 => match vs with | [x] => rLRange x H1 Q | _ => False) I h) fun us s1 ⟨vs, H1, I1, r1, q1⟩ => ?_) hs rfl))
  match vs, r1, q1 with
  | [x], r1, q1 =>
    obtain ⟨n, rfl, hn, q⟩ := q1
    cases r1 with
    | cons r rr =>
      cases rr
      obtain ⟨t, rfl⟩ := r
      refine call_range_1 (Calls.spliced_nil ?_)
      generalize hs2 : ({ s1 with heap := s1.heap.push { cls := .type "range", data := .fields #[.int 0 s1.toks, .int n t, .int 1 (s1.toks + 1)] }, toks := s1.toks + 1 + 1 } : Shared) = s2
      have I2 : Inv X pins σ H1 s2 := by rw [← hs2]; exact I1.kept fun b o e => Heap.get?_push_of_some _ e
      have hr : IsRange s2.heap s1.heap.objs.size 0 n 1 s1.toks t (s1.toks + 1) := by rw [← hs2]; exact Heap.get?_push_size _ rfl
      have rs : Builtin.Range.rangeSize 0 (n : Int) 1 = n := by
        unfold Builtin.Range.rangeSize
        rw [if_pos (by decide)]
        by_cases z : (0 : Int) < n
        · rw [if_pos z]
          omega
        · rw [if_neg z]
          omega
      refine call_list_range (n := n) (I.ok.hd hc) hr ?_ rs (by omega) fun h' tk acc' c' hk he hi => ?_
      · simp [Builtin.Range.small, Builtin.Range.rangeFitsLong]
        rw [rs]
        omega
      · have hs3 : Inv X pins σ (upd H1 s2.heap.objs.size (.lst ((List.range n).map fun i => V.int (i : Nat)))) { s2 with heap := h', toks := tk } := by
          refine I2.laid (t' := tk) hk (Nat.le_refl _) ⟨?_, acc'.toList, c', ?_, ?_⟩
          · rw [List.length_map, List.length_range, sizeLine_eq]
            omega
          · obtain ⟨h1, h2⟩ := hi
            have all : ∀ (k : Nat) (l : List Value), (∀ j v, l[j]? = some v → ∃ t, v = Value.int ((0 : Int) + ((k + j : Nat) : Int) * 1) t) → Vals ((List.range' k l.length).map fun i => V.int (i : Nat)) l := by
              intro k l
              induction l generalizing k with
              | nil => intro _; exact .nil
              | cons v l ih =>
                intro hl
                rw [List.length_cons, List.range'_succ, List.map_cons]
                refine .cons ?_ (ih (k + 1) fun j v hj => ?_)
                · obtain ⟨t, rfl⟩ := hl 0 v rfl
                  exact ⟨t, by simp⟩
                · obtain ⟨t, rfl⟩ := hl (j + 1) v (by simpa using hj)
                  exact ⟨t, by congr 2; omega⟩
            have z := all 0 acc'.toList fun j v hj => by
              obtain ⟨t, rfl⟩ := h2 j v (by rw [← Array.getElem?_toList]; exact hj)
              exact ⟨t, by simp⟩
            rw [Array.length_toList, h1, ← List.range_eq_range'] at z
            exact z
          · exact he
        exact ⟨.ref s2.heap.objs.size, _, hs3, rfl, q _ (I2.hok.fresh (Nat.le_refl _))⟩
end
end L2
set_option Elab.async false
set_option linter.all false
set_option maxRecDepth 100000
set_option maxHeartbeats 4000000
namespace L2.IR
open PySem PySem.Spec PyProof.Rows
inductive Ty where | int | bool | str | non | list | tuple | dict
  deriving DecidableEq
def Ty.nm : Ty → String
  | .int => "int" | .bool => "bool" | .str => "str" | .non => "NoneType" | .list => "list" | .tuple => "tuple" | .dict => "dict"
def Ty.sub : Ty → Ty → Bool
  | .bool, .int => true
  | a, b => decide (a = b)
inductive Bi where | len | sum | all | any | list | divmod | abs | max | min | sorted | tuple
  deriving DecidableEq
def Bi.nm : Bi → Str
  | .len => "len" | .sum => "sum" | .all => "all" | .any => "any" | .list => "list" | .divmod => "divmod" | .abs => "abs" | .max => "max" | .min => "min" | .sorted => "sorted" | .tuple => "tuple"
mutual
inductive E where
  | var (i : Nat) | int (n : Int) | bl (b : Bool) | non | str (s : Str)
  | glob (k : Nat)
  | op (o : Operator) (a b : E) | neg (a : E)
  | cmp (o : CmpOp) (a b : E) | chain (o o' : CmpOp) (a b c : E)
  | and (a b : E) | or (a b : E) | not (a : E)
  | ife (c a b : E)
  | tup (es : Es) | lst (es : Es)
  | ix (a b : E) | slT (a b : E) | slF (a b : E)
  | call (k : Nat) (es : Es)
  | bi (f : Bi) (es : Es)
  | isi (a : E) (T : Ty)
  | app (i : Nat) (b : E) | pop (i : Nat)
  | lc (own : List Nat) (g : List Nat) (one : Bool) (w : W) (c : E) (e : E)
  | lc2 (own vs1 : List Nat) (g : List Nat) (one : Bool) (w : W) (c : E) (g1 : List Nat) (one1 : Bool) (w1 : W) (c1 : E) (e : E)
  | dc (pp : Bool) (own : List Nat) (g : List Nat) (one : Bool) (w : W) (k : E) (v : E)
  | dmem (pp neg : Bool) (a b : E) | dix (pp : Bool) (a b : E) | dlen (pp : Bool) (a : E) | dlist (pp : Bool) (a : E)
  | zipl (a b : E) | mint (a : E) | ext (i : Nat) (b : E)
  | mk (x : Str) (k : Nat) (es : Es) | mk0 (x : Str)
  | fld (a : E) (f : Str) (ys : List Str) | meth (a : E) (m : Str) (tab : List (Str × Nat)) (es : Es)
  | isc (a : E) (x : Str) (tab : List (Str × Bool))
  | dnew (pp : Bool) | dget (pp : Bool) (a k d : E) | sdef (pp : Bool) (a k d : E) | appE (a b : E) | lock (e : E) | sortT (a : E) | lrange (a : E) | cntB (a b : E) | inL (neg : Bool) (a b : E)
inductive Es where
  | nil | cons (e : E) (es : Es)
inductive W where
  | list (e : E) | tup (e : E) | rng1 (a : E) | rng2 (a b : E) | enum (e : E) | zip (a b : E) | revr (a : E) | dict (pp : Bool) (e : E)
end
mutual
inductive S where
  | expr (e : E) | ret (e : E) | retN | pass | brk | cont
  | set (i : Nat) (e : E)
  | setLc (i : Nat) (own : List Nat) (g : List Nat) (one : Bool) (w : W) (c : E) (e : E)
  | setLc2 (i : Nat) (own vs1 : List Nat) (g : List Nat) (one : Bool) (w : W) (c : E) (g1 : List Nat) (one1 : Bool) (w1 : W) (c1 : E) (e : E)
  | setDc (i : Nat) (pp : Bool) (own : List Nat) (g : List Nat) (one : Bool) (w : W) (k : E) (v : E)
  | setfld (a : E) (f : Str) (ys : List Str) (e : E)
  | setT (is : List Nat) (e : E)
  | par (i j : Nat) (a b : E)
  | setix (o i e : E)
  | dput (pp : Bool) (o i e : E)
  | aug (i : Nat) (o : Operator) (e : E)
  | ife (c : E) (a b : Ss)
  | loop (c : E) (b : Ss)
  | for (g : List Nat) (one : Bool) (w : W) (b : Ss)
  | never
inductive Ss where
  | nil | cons (s : S) (ss : Ss)
end
section
variable (K : PySem.W.Frag) (Γ : Nat → Sp) (gv : Nat → V)
def opW (o : Operator) (x y : V) (H : Hp) (Q : VK) : Prop :=
  match o with
  | .Add => (match x, y with
    | .int i, .int j => Q (.int (i + j)) H
    | .str i, .str j => i.length + j.length ≤ sizeLine ∧ Q (.str (i ++ j)) H
    | x, y => rCat x y H Q)
  | .Sub => (match x, y with | .int i, .int j => Q (.int (i - j)) H | _, _ => False)
  | .Mult => (match x, y with
    | .int i, .int j => IntMulOk i j ∧ Q (.int (i * j)) H
    | x, y => rRep x y H Q)
  | .FloorDiv => (match x, y with | .int i, .int j => CDiv i j ∧ Q (.int (i / j)) H | _, _ => False)
  | .Mod => (match x, y with | .int i, .int j => 0 < j ∧ Q (.int (i % j)) H | _, _ => False)
  | .Pow => (match x, y with | .int i, .int j => CPow i j ∧ Q (.int (i ^ j.toNat)) H | _, _ => False)
  | .LShift => (match x, y with | .int i, .int j => CPow i j ∧ Q (.int (i * 2 ^ j.toNat)) H | _, _ => False)
  | .RShift => (match x, y with | .int i, .int j => 0 ≤ j ∧ Q (.int (i / 2 ^ j.toNat)) H | _, _ => False)
  | _ => False
def eqW (neg : Bool) (x y : V) (H : Hp) (Q : VK) : Prop :=
  match x, y with
  | .int i, .int j => Q (.bl (bif neg then !decide (i = j) else decide (i = j))) H
  | .bl i, .bl j => Q (.bl (bif neg then !decide (i = j) else decide (i = j))) H
  | .str i, .str j => Q (.bl (bif neg then !decide (i = j) else decide (i = j))) H
  | x, y => bif neg then rNeD K x y H Q else rEqD K x y H Q
def isBW (x : V) (F : Bool → Prop) : Prop := match x with | .bl a => F a | _ => False
def cmpW (o : CmpOp) (x y : V) (H : Hp) (Q : VK) : Prop :=
  match o with
  | .Lt => (match x, y with | .int i, .int j => Q (.bl (decide (i < j))) H | _, _ => False)
  | .LtE => (match x, y with | .int i, .int j => Q (.bl (decide (i ≤ j))) H | _, _ => False)
  | .Gt => (match x, y with | .int i, .int j => Q (.bl (decide (j < i))) H | _, _ => False)
  | .GtE => (match x, y with | .int i, .int j => Q (.bl (decide (j ≤ i))) H | _, _ => False)
  | .Eq => eqW K false x y H Q
  | .NotEq => eqW K true x y H Q
  | .In => rIn K false x y H Q
  | .NotIn => rIn K true x y H Q
  | .Is => (match y with | .bl b => isBW x (fun a => Q (.bl (a == b)) H) | y => y = .non ∧ Q (.bl (decide (x = .non))) H)
  | .IsNot => (match y with | .bl b => isBW x (fun a => Q (.bl (a != b)) H) | y => y = .non ∧ Q (.bl (!decide (x = .non))) H)
def ixW (x y : V) (H : Hp) (Q : VK) : Prop := match x, y with
  | .ref p, .int i => ∃ xs v, (SqL K H p xs ∨ SqT K H p xs) ∧ atI xs i = some v ∧ Q v H
  | _, _ => False
def slW (x : V) (lo hi : Option Int) (H : Hp) (Q : VK) : Prop := match x with
  | .ref a => ∃ xs, SqL K H a xs ∧ ∀ p, H p = none → Q (.ref p) (upd H p (.lst (cutV xs lo hi)))
  | _ => False
def isiW (T : Ty) (x : V) (H : Hp) (Q : VK) : Prop := match x with
  | .int _ => Q (.bl (Ty.sub .int T)) H
  | .bl _ => Q (.bl (Ty.sub .bool T)) H
  | .str _ => Q (.bl (Ty.sub .str T)) H
  | .non => Q (.bl (Ty.sub .non T)) H
  | .ref a => ∃ t : Ty, TyOf K H (.ref a) (.type t.nm) ∧ Q (.bl (Ty.sub t T)) H
  | _ => False
def biW (f : Bi) (xs : List V) (H : Hp) (Q : VK) : Prop := match f, xs with
  | .len, [.ref p] => ∃ ys, (SqL K H p ys ∨ SqT K H p ys) ∧ Q (.int ys.length) H
  | .len, [.str z] => z.length ≤ sizeLine ∧ Q (.int z.length) H
  | .sum, xs => rSum K xs H Q
  | .all, xs => rAll K xs H Q
  | .any, xs => rAny K xs H Q
  | .list, [.ref p] => ∃ ys, (SqL K H p ys ∨ SqT K H p ys) ∧ ∀ l, H l = none → Q (.ref l) (upd H l (.lst ys))
  | .tuple, [.ref p] => ∃ ys, SqL K H p ys ∧ ∀ l, H l = none → Q (.ref l) (upd H l (.tup ys))
  | .divmod, [.int i, .int j] => CDiv i j ∧ ∀ p, H p = none → Q (.ref p) (upd H p (.tup [.int (i / j), .int (i % j)]))
  | .abs, [.int i] => Q (.int (if i < 0 then -i else i)) H
  | .max, [.int i, .int j] => Q (.int (if j > i then j else i)) H
  | .min, [.int i, .int j] => Q (.int (if j < i then j else i)) H
  | .sorted, xs => rSorted K xs H Q
  | _, _ => False
def truW (x : V) (H : Hp) (Q : Bool → Hp → Prop) : Prop := match x with
  | .bl b => Q b H
  | x => ∃ k, TruV K x H k ∧ Q k H
def gsW : List Nat → List V → St → St
  | i :: is, v :: vs, σ => gsW is vs (σ.set i (some v))
  | _, _, σ => σ
def gW (g : List Nat) (one : Bool) (x : V) (σ : St) (H : Hp) (Q : St → Hp → Prop) : Prop := match one, g with
  | true, [i] => Q (σ.set i (some x)) H
  | false, is => ∃ a xs, x = .ref a ∧ SqT K H a xs ∧ xs.length = is.length ∧ Q (gsW is xs σ) H
  | _, _ => False
def asB (F : Bool → Prop) : V → Prop
  | .bl b => F b
  | _ => False
def asI (F : Int → Prop) : V → Prop
  | .int i => F i
  | _ => False
def atS (σ : St) (i : Nat) (F : V → Prop) : Prop := match σ[i]? with
  | some (some v) => F v
  | _ => False
def insW (x : V) (H : Hp) (ys : List Str) (R : Addr → Addr → List (Str × V) → Str → Prop) : Prop := ∃ p y dx fs, x = .ref p ∧ H p = some (.ins (clsA K y) dx fs) ∧ y ∈ ys ∧ R p dx fs y
def iscW (tab : List (Str × Bool)) (x : V) (H : Hp) (Q : VK) : Prop := match x with
  | .ref a => (∃ y dx fs b, H a = some (.ins (clsA K y) dx fs) ∧ (y, b) ∈ tab ∧ Q (.bl b) H) ∨ ∃ t : Ty, TyOf K H (.ref a) (.type t.nm) ∧ Q (.bl false) H
  | .int _ => Q (.bl false) H
  | .bl _ => Q (.bl false) H
  | .str _ => Q (.bl false) H
  | .non => Q (.bl false) H
  | _ => False
def extW (x y : V) (H : Hp) (Q : VK) : Prop := ∃ l b xs zs, x = .ref l ∧ y = .ref b ∧ H l = some (.lst xs) ∧ H b = some (.lst zs) ∧ xs.length + zs.length ≤ sizeLine ∧ Q .non (upd H l (.lst (xs ++ zs)))
def tYesW : TT := fun _ H Q => Q true H
mutual
def wpE : E → St → Hp → VK → Prop
  | .var i, σ, H, Q => atS σ i fun v => Q v H
  | .int n, _, H, Q => Q (.int n) H
  | .bl b, _, H, Q => Q (.bl b) H
  | .non, _, H, Q => Q .non H
  | .str s, _, H, Q => Q (.str s) H
  | .glob k, _, H, Q => Q (gv k) H
  | .op o a b, σ, H, Q => wpE a σ H fun x H1 => wpE b σ H1 fun y H2 => opW o x y H2 Q
  | .neg a, σ, H, Q => wpE a σ H fun x H1 => asI (fun i => Q (.int (-i)) H1) x
  | .cmp o a b, σ, H, Q => wpE a σ H fun x H1 => wpE b σ H1 fun y H2 => cmpW K o x y H2 Q
  | .chain o o' a b c, σ, H, Q => wpE a σ H fun x H1 => wpE b σ H1 fun y H2 => cmpW K o x y H2 fun z H3 => asB (fun k => if k = true then wpE c σ H3 fun u H4 => cmpW K o' y u H4 Q else Q (.bl false) H3) z
  | .and a b, σ, H, Q => wpE a σ H fun x H1 => asB (fun c => if c = true then wpE b σ H1 Q else Q (.bl false) H1) x
  | .or a b, σ, H, Q => wpE a σ H fun x H1 => asB (fun c => if c = true then Q (.bl true) H1 else wpE b σ H1 Q) x
  | .not a, σ, H, Q => wpE a σ H fun x H1 => asB (fun c => Q (.bl (!c)) H1) x
  | .ife c a b, σ, H, Q => wpT c σ H fun k H1 => if k = true then wpE a σ H1 Q else wpE b σ H1 Q
  | .tup es, σ, H, Q => wpEs es σ H fun xs H1 => xs.length ≤ sizeLine ∧ ∀ p, H1 p = none → Q (.ref p) (upd H1 p (.tup xs))
  | .lst es, σ, H, Q => wpEs es σ H fun xs H1 => xs.length ≤ sizeLine ∧ ∀ p, H1 p = none → Q (.ref p) (upd H1 p (.lst xs))
  | .ix a b, σ, H, Q => wpE a σ H fun x H1 => wpE b σ H1 fun y H2 => ixW K x y H2 Q
  | .slT a b, σ, H, Q => wpE a σ H fun x H1 => wpE b σ H1 fun y H2 => asI (fun i => slW K x none (some i) H2 Q) y
  | .slF a b, σ, H, Q => wpE a σ H fun x H1 => wpE b σ H1 fun y H2 => asI (fun i => slW K x (some i) none H2 Q) y
  | .call k es, σ, H, Q => wpEs es σ H fun vs H1 => Γ k vs H1 Q E0
  | .bi f es, σ, H, Q => wpEs es σ H fun vs H1 => biW K f vs H1 Q
  | .isi a T, σ, H, Q => wpE a σ H fun x H1 => isiW K T x H1 Q
  | .app i b, σ, H, Q => atS σ i fun x => (∃ l xs, x = .ref l ∧ H l = some (.lst xs)) ∧ wpE b σ H fun y H2 => ∃ l xs, x = .ref l ∧ H2 l = some (.lst xs) ∧ xs.length < sizeLine ∧ Q .non (upd H2 l (.lst (xs ++ [y])))
  | .pop i, σ, H, Q => atS σ i fun x => ∃ l xs y, x = .ref l ∧ H l = some (.lst (xs ++ [y])) ∧ Q y (upd H l (.lst xs))
  | .lc own g one w c e, σ, H, Q => wpW w σ H fun J H1 => ∀ D, H1 D = none → ∃ W : Nat → Nat → Hp → Prop, (∃ m, W 0 m (upd H1 D (.lst []))) ∧ ∀ i m H, W i m H →
      (J.stop i H ∧ Q (.ref D) H) ∨ (J.go i H ∧ ∃ Nx : Hp → Prop, (∀ H', Nx H' → ∃ m', m' < m ∧ W (i + 1) m' H') ∧ ∀ x H', J.yld i H x H' → gW K g one x (wipe σ own) H' fun σ2 H2 => wipe σ2 own = wipe σ own ∧ wpT c σ2 H2 fun b H3 =>
        if b = true then wpE e σ2 H3 fun y H4 => ∃ acc, H4 D = some (.lst acc) ∧ acc.length < sizeLine ∧ Nx (upd H4 D (.lst (acc ++ [y]))) else Nx H3)
  | .lc2 own vs1 g one w c g1 one1 w1 c1 e, σ, H, Q => tLc2 (wpW w) (gW K g one) (wpT c) (wpW w1) (gW K g1 one1) (wpT c1) (wpE e) own vs1 σ H Q
  | .dc true own g one w k v, σ, H, Q => tDc dkP (wpW w) (gW K g one) tYesW (wpE k) (wpE v) own σ H Q
  | .dc false own g one w k v, σ, H, Q => tDc dkT (wpW w) (gW K g one) tYesW (wpE k) (wpE v) own σ H Q
  | .dmem true neg a b, σ, H, Q => wpE a σ H fun x H1 => wpE b σ H1 fun y H2 => rDIn dkP neg x y H2 Q
  | .dmem false neg a b, σ, H, Q => wpE a σ H fun x H1 => wpE b σ H1 fun y H2 => rDIn dkT neg x y H2 Q
  | .dix true a b, σ, H, Q => wpE a σ H fun x H1 => wpE b σ H1 fun y H2 => rDIx dkP x y H2 Q
  | .dix false a b, σ, H, Q => wpE a σ H fun x H1 => wpE b σ H1 fun y H2 => rDIx dkT x y H2 Q
  | .dlen true a, σ, H, Q => wpE a σ H fun x H1 => rDLen dkP [x] H1 Q
  | .dlen false a, σ, H, Q => wpE a σ H fun x H1 => rDLen dkT [x] H1 Q
  | .dlist true a, σ, H, Q => wpE a σ H fun x H1 => rDList dkP [x] H1 Q
  | .dlist false a, σ, H, Q => wpE a σ H fun x H1 => rDList dkT [x] H1 Q
  | .zipl a b, σ, H, Q => wpE a σ H fun x H1 => wpE b σ H1 fun y H2 => rZipL K x y H2 Q
  | .mint a, σ, H, Q => wpE a σ H fun x H1 => rMinT K [x] H1 Q
  | .ext i b, σ, H, Q => atS σ i fun x => (∃ l xs, x = .ref l ∧ H l = some (.lst xs)) ∧ wpE b σ H fun y H2 => extW x y H2 Q
  | .mk x k es, σ, H, Q => wpEs es σ H fun vs H1 => ∀ p dx, H1 p = none → H1 dx = none → dx ≠ p → Γ k (.ref p :: vs) (upd (upd H1 dx (.own p)) p (.ins (clsA K x) dx [])) (fun v H2 => v = .non ∧ Q (.ref p) H2) E0
  | .mk0 x, _, H, Q => ∀ p dx, H p = none → H dx = none → dx ≠ p → Q (.ref p) (upd (upd H dx (.own p)) p (.ins (clsA K x) dx []))
  | .fld a f ys, σ, H, Q => wpE a σ H fun x H1 => insW K x H1 ys fun _ _ fs _ => ∃ v, fs.lookup f = some v ∧ Q v H1
  | .meth a m tab es, σ, H, Q => wpE a σ H fun x H1 => insW K x H1 (tab.map (·.1)) fun _ _ fs y => fs.lookup m = none ∧ wpEs es σ H1 fun vs H2 => ∃ k, (y, k) ∈ tab ∧ Γ k (x :: vs) H2 Q E0
  | .isc a x tab, σ, H, Q => wpE a σ H fun x H1 => iscW K tab x H1 Q
  | .dnew true, σ, H, Q => tDdNew dkP σ H Q
  | .dnew false, σ, H, Q => tDdNew dkT σ H Q
  | .dget true a k d, σ, H, Q => tDdGet2 dkP (wpE a) (wpE k) (wpE d) σ H Q
  | .dget false a k d, σ, H, Q => tDdGet2 dkT (wpE a) (wpE k) (wpE d) σ H Q
  | .sdef true a k d, σ, H, Q => tDdSet dkP (wpE a) (wpE k) (wpE d) σ H Q
  | .sdef false a k d, σ, H, Q => tDdSet dkT (wpE a) (wpE k) (wpE d) σ H Q
  | .appE a b, σ, H, Q => wpE a σ H fun x H1 => tyV K "list" x H1 ∧ wpE b σ H1 fun y H2 => rAppend x [y] H2 Q
  | .lock e, σ, H, Q => tLockE (wpE e) σ H Q
  | .sortT a, σ, H, Q => wpE a σ H fun x H1 => rSortedT K [x] H1 Q
  | .lrange a, σ, H, Q => wpE a σ H fun x H1 => rLRange x H1 Q
  | .cntB a b, σ, H, Q => wpE a σ H fun x H1 => tyV K "list" x H1 ∧ wpE b σ H1 fun y H2 => rCountB x [y] H2 Q
  | .inL neg a b, σ, H, Q => wpE a σ H fun x H1 => wpE b σ H1 fun y H2 => rInL K neg x y H2 Q
def wpT : E → St → Hp → (Bool → Hp → Prop) → Prop
  | .bl true, _, H, Q => Q true H
  | .cmp o a b, σ, H, Q => wpE a σ H fun x H1 => wpE b σ H1 fun y H2 => cmpW K o x y H2 fun z H3 => asB (fun k => Q k H3) z
  | .chain o o' a b c, σ, H, Q => wpE a σ H fun x H1 => wpE b σ H1 fun y H2 => cmpW K o x y H2 fun z H3 => asB (fun k => if k = true then wpE c σ H3 fun u H4 => cmpW K o' y u H4 fun z H5 => asB (fun k => Q k H5) z else Q false H3) z
  | .and a b, σ, H, Q => wpT a σ H fun c H1 => if c = true then wpT b σ H1 Q else Q false H1
  | .or a b, σ, H, Q => wpT a σ H fun c H1 => if c = true then Q true H1 else wpT b σ H1 Q
  | .not a, σ, H, Q => wpT a σ H fun c H1 => Q (!c) H1
  | .ife _ _ _, _, _, _ => False
  | .var i, σ, H, Q => atS σ i fun v => truW K v H Q
  | .call k es, σ, H, Q => wpEs es σ H fun vs H1 => Γ k vs H1 (fun x H2 => truW K x H2 Q) E0
  | .bi f es, σ, H, Q => wpEs es σ H fun vs H1 => biW K f vs H1 fun x H2 => truW K x H2 Q
  | .isi a T, σ, H, Q => wpE a σ H fun x H1 => isiW K T x H1 fun x H2 => truW K x H2 Q
  | .dmem true neg a b, σ, H, Q => wpE a σ H fun x H1 => wpE b σ H1 fun y H2 => rDIn dkP neg x y H2 fun z H3 => asB (fun k => Q k H3) z
  | .dmem false neg a b, σ, H, Q => wpE a σ H fun x H1 => wpE b σ H1 fun y H2 => rDIn dkT neg x y H2 fun z H3 => asB (fun k => Q k H3) z
  | .isc a x tab, σ, H, Q => wpE a σ H fun x H1 => iscW K tab x H1 fun x H2 => truW K x H2 Q
  | .meth a m tab es, σ, H, Q => wpE a σ H fun x H1 => insW K x H1 (tab.map (·.1)) fun _ _ fs y => fs.lookup m = none ∧ wpEs es σ H1 fun vs H2 => ∃ k, (y, k) ∈ tab ∧ Γ k (x :: vs) H2 (fun x H3 => truW K x H3 Q) E0
  | .inL neg a b, σ, H, Q => wpE a σ H fun x H1 => wpE b σ H1 fun y H2 => rInL K neg x y H2 fun z H3 => asB (fun k => Q k H3) z
  | .ix a b, σ, H, Q => wpE a σ H fun x H1 => wpE b σ H1 fun y H2 => ixW K x y H2 fun x H3 => truW K x H3 Q
  | _, _, _, _ => False
def wpEs : Es → St → Hp → (List V → Hp → Prop) → Prop
  | .nil, _, H, Q => Q [] H
  | .cons e es, σ, H, Q => wpE e σ H fun x H1 => wpEs es σ H1 fun xs H2 => Q (x :: xs) H2
def wpW : W → St → Hp → (It → Hp → Prop) → Prop
  | .list e, σ, H, R => wpE e σ H fun x H1 => ∃ a, x = .ref a ∧ (∃ xs, SqL K H1 a xs) ∧ R (Itl K a) H1
  | .tup e, σ, H, R => wpE e σ H fun x H1 => ∃ a, x = .ref a ∧ (∃ xs, SqT K H1 a xs) ∧ R (Itt K a) H1
  | .rng1 a, σ, H, R => wpE a σ H fun x H1 => asI (fun j => (-(2 ^ 62) ≤ j ∧ j < 2 ^ 62) ∧ R (Itr 0 j.toNat) H1) x
  | .rng2 a b, σ, H, R => wpE a σ H fun x H1 => wpE b σ H1 fun y H2 => asI (fun i => asI (fun j => (-(2 ^ 62) ≤ i ∧ i < 2 ^ 62 ∧ -(2 ^ 62) ≤ j ∧ j < 2 ^ 62) ∧ R (Itr i (j - i).toNat) H2) y) x
  | .enum e, σ, H, R => wpE e σ H fun x H1 => ∃ a, x = .ref a ∧ (∃ xs, SqL K H1 a xs) ∧ R (Ite K a) H1
  | .zip a b, σ, H, R => wpE a σ H fun x H1 => wpE b σ H1 fun y H2 => ∃ p q, x = .ref p ∧ y = .ref q ∧ (∃ xs, SqL K H2 p xs) ∧ (∃ ys, SqL K H2 q ys) ∧ R (Itz K p q) H2
  | .revr a, σ, H, R => wpE a σ H fun x H1 => asI (fun j => ∃ n : Nat, j = n ∧ (n : Int) < 2 ^ 62 ∧ R (Itc ((n : Int) - 1) (-1) n) H1) x
  | .dict true e, σ, H, R => iKeysD dkP (wpE e) σ H R
  | .dict false e, σ, H, R => iKeysD dkT (wpE e) σ H R
end
def augW (o : Operator) (x y : V) (H : Hp) (Q : VK) : Prop := match o, x, y with
  | .Add, .int i, .int j => Q (.int (i + j)) H
  | .Sub, .int i, .int j => Q (.int (i - j)) H
  | _, _, _ => False
mutual
def wpS : S → Ends → St → Hp → Prop
  | .expr e, D, σ, H => wpE K Γ gv e σ H fun _ H1 => D.nx σ H1
  | .ret e, D, σ, H => wpE K Γ gv e σ H D.rt
  | .retN, D, _, H => D.rt .non H
  | .pass, D, σ, H => D.nx σ H
  | .brk, D, σ, H => D.bk σ H
  | .cont, D, σ, H => D.ct σ H
  | .set i e, D, σ, H => wpE K Γ gv e σ H fun x H1 => D.nx (σ.set i (some x)) H1
  | .setLc i own g one w c e, D, σ, H => wpE K Γ gv (.lc own g one w c e) σ H fun x H1 => D.nx (σ.set i (some x)) H1
  | .setLc2 i own vs1 g one w c g1 one1 w1 c1 e, D, σ, H => wpE K Γ gv (.lc2 own vs1 g one w c g1 one1 w1 c1 e) σ H fun x H1 => D.nx (σ.set i (some x)) H1
  | .setDc i pp own g one w k v, D, σ, H => wpE K Γ gv (.dc pp own g one w k v) σ H fun x H1 => D.nx (σ.set i (some x)) H1
  | .setfld a f ys e, D, σ, H => wpE K Γ gv e σ H fun v H1 => wpE K Γ gv a σ H1 fun x H2 => insW K x H2 ys fun p dx fs y => fs.length < 1000 ∧ D.nx σ (upd H2 p (.ins (clsA K y) dx (putF f v fs)))
  | .setT is e, D, σ, H => wpE K Γ gv e σ H fun x H1 => ∃ a xs, x = .ref a ∧ SqT K H1 a xs ∧ xs.length = is.length ∧ D.nx (gsW is xs σ) H1
  | .par i j a b, D, σ, H => wpE K Γ gv a σ H fun x H1 => wpE K Γ gv b σ H1 fun y H2 => D.nx ((σ.set i (some x)).set j (some y)) H2
  | .setix o i e, D, σ, H => wpE K Γ gv e σ H fun v H1 => wpE K Γ gv o σ H1 fun x H2 => wpE K Γ gv i σ H2 fun y H3 => ∃ p xs k j, x = .ref p ∧ y = .int k ∧ H3 p = some (.lst xs) ∧ ixN xs.length k = some j ∧ D.nx σ (upd H3 p (.lst (xs.set j v)))
  | .dput true o i e, D, σ, H => sDdPut dkP (wpE K Γ gv o) (wpE K Γ gv i) (wpE K Γ gv e) D σ H
  | .dput false o i e, D, σ, H => sDdPut dkT (wpE K Γ gv o) (wpE K Γ gv i) (wpE K Γ gv e) D σ H
  | .aug i o e, D, σ, H => atS σ i fun x => wpE K Γ gv e σ H fun y H1 => augW o x y H1 fun z H2 => D.nx (σ.set i (some z)) H2
  | .ife c a b, D, σ, H => wpT K Γ gv c σ H fun k H1 => if k = true then wpSs a D σ H1 else wpSs b D σ H1
  | .loop c b, D, σ, H => ∃ W : Nat → St → Hp → Prop, (∃ m, W m σ H) ∧ ∀ m σ H, W m σ H →
      wpT K Γ gv c σ H fun k H1 => if k = true then ∃ N : St → Hp → Prop, (∀ σ' H', N σ' H' → ∃ m', m' < m ∧ W m' σ' H') ∧ wpSs b { D with nx := N, ct := N, bk := D.nx } σ H1 else D.nx σ H1
  | .for g one w b, D, σ, H => wpW K Γ gv w σ H fun J H1 => ∃ W : Nat → Nat → St → Hp → Prop, (∃ m, W 0 m σ H1) ∧ ∀ i m σ H, W i m σ H →
      (J.stop i H ∧ D.nx σ H) ∨ (J.go i H ∧ ∃ N : St → Hp → Prop, (∀ σ' H', N σ' H' → ∃ m', m' < m ∧ W (i + 1) m' σ' H') ∧ ∀ x H', J.yld i H x H' → gW K g one x σ H' fun σ2 H2 => wpSs b { D with nx := N, ct := N, bk := D.nx } σ2 H2)
  | .never, _, _, _ => False
def wpSs : Ss → Ends → St → Hp → Prop
  | .nil, D, σ, H => D.nx σ H
  | .cons s ss, D, σ, H => wpS s { D with nx := wpSs ss D } σ H
end
end
end L2.IR
set_option Elab.async false
set_option linter.all false
set_option maxRecDepth 100000
set_option maxHeartbeats 4000000
namespace L2.IR
open PySem PySem.Spec PyProof.Rows
def visB (sc : Scope) (x : Str) : Bool := match sc.names.lookup x with | some .local => true | some .cell => true | some .free => true | _ => false
def locB (sc : Scope) (x : Str) : Bool := match sc.names.lookup x with | some .local => true | some .cell => true | _ => false
def lclB (sc : Scope) (x : Str) : Bool := match sc.names.lookup x with | some .local => true | _ => false
def glB (sc : Scope) (x : Str) : Bool := match sc.names.lookup x with | some .globalImplicit => true | _ => false
def plB (x : Str) : Bool := !(x == ("__debug__" : Str)) && !(x == ("__classdict__" : Str)) && decide (x ≠ "__name__")
def isYes : E → Bool
  | .bl true => true
  | _ => false
def isLc : Expr → Bool
  | .ListComp .. | .SetComp .. | .DictComp .. => true
  | _ => false
def isTp : Expr → Bool
  | .Tuple .. => true
  | _ => false
def isSl : Expr → Bool
  | .Slice .. => true
  | _ => false
def ownL (N : List Str) (own : List Nat) : List (Str × Nat) := own.map fun i => (N.getD i "", i)
theorem ownL_snd (N : List Str) (own : List Nat) : (ownL N own).map (·.2) = own := by
  unfold ownL
  rw [List.map_map]
  exact List.map_id' own
structure Sg where
  mt : List (Str × Str)
  cl : List Str
  cs : List (Str × Str × Bool)
  ini : List (Str × Nat)
  in0 : List Str
  fl : List (Str × Str)
def wT : W → Expr → Bool
  | .enum _, e => isTp e
  | .zip _ _, e => isTp e
  | _, _ => true
def noSup : Expr → Bool
  | .Call (.Name id _) [] [] _ => id != "super"
  | _ => true
def celB (sc : Scope) (x : Str) : Bool := match sc.names.lookup x with | some .cell => true | _ => false
def hasCel (sc : Scope) : List Expr → Bool
  | .Name x _ :: es => celB sc x || hasCel sc es
  | _ :: es => hasCel sc es
  | [] => false
section
variable (N ft gt : List Str) (sg : Sg) (n : Nat)
def mNames (sc : Scope) : List Nat → List Expr → Bool
  | [], [] => true
  | i :: is, .Name x _ :: es => decide (N[i]? = some x) && locB sc x && mNames sc is es
  | _, _ => false
def mG (g : List Nat) (one : Bool) (sc : Scope) (e : Expr) : Bool := match one, g, e with
  | true, [i], .Name x _ => decide (N[i]? = some x) && locB sc x
  | false, is, .Tuple es _ _ => mNames N sc is es
  | _, _, _ => false
mutual
def mE : E → Scope → Expr → Bool
  | .var i, sc, .Name x _ => decide (N[i]? = some x) && visB sc x && plB x
  | .int n, _, .Constant (.int m) _ _ => decide (n = m)
  | .bl b, _, .Constant (.bool c) _ _ => decide (b = c)
  | .non, _, .Constant .none _ _ => true
  | .str s, _, .Constant (.str t) _ _ => decide (s = t)
  | .glob k, sc, .Name x _ => decide (gt[k]? = some x) && glB sc x && plB x
  | .op o a b, sc, .BinOp l o' r _ => decide (o = o') && mE a sc l && mE b sc r
  | .neg a, sc, .UnaryOp .USub l _ => mE a sc l
  | .cmp o a b, sc, .Compare l [o'] [r] _ => decide (o = o') && mE a sc l && mE b sc r && !behindInMarks o r
  | .chain o p a b c, sc, .Compare l [o', p'] [m, r] _ => decide (o = o') && decide (p = p') && mE a sc l && mE b sc m && mE c sc r && !behindInMarks p r
  | .and a b, sc, .BoolOp .And (l :: m :: rest) pos => mE a sc l && (match rest with | [] => mE b sc m | _ => mE b sc (.BoolOp .And (m :: rest) pos))
  | .or a b, sc, .BoolOp .Or (l :: m :: rest) pos => mE a sc l && (match rest with | [] => mE b sc m | _ => mE b sc (.BoolOp .Or (m :: rest) pos))
  | .not a, sc, .UnaryOp .Not l _ => mE a sc l
  | .ife c a b, sc, .IfExp t l r _ => mE c sc t && mE a sc l && mE b sc r
  | .tup es, sc, .Tuple ls _ _ => mEs es sc ls
  | .lst es, sc, .List ls _ => mEs es sc ls
  | .ix a b, sc, .Subscript l r _ => mE a sc l && mE b sc r && !isSl r
  | .slT a b, sc, .Subscript l (.Slice none (some r) none _) _ => mE a sc l && mE b sc r
  | .slF a b, sc, .Subscript l (.Slice (some r) none none _) _ => mE a sc l && mE b sc r
  | .call k es, sc, .Call (.Name x _) (l :: ls) [] _ => decide (k < n) && decide (ft[k]? = some x) && glB sc x && plB x && decide (x ≠ "") && mEs es sc (l :: ls)
  | .bi f es, sc, .Call (.Name x _) (l :: ls) [] _ => decide (x = f.nm) && glB sc x && mEs es sc (l :: ls)
  | .isi a T, sc, .Call (.Name x _) [l, .Name t _] [] _ => decide (x = "isinstance") && glB sc x && decide (t = Str.ofString T.nm) && glB sc t && mE a sc l && !decide (T = .non)
  | .app i b, sc, .Call (.Attribute (.Name y py) m ap) [r] [] cp => decide (m = "append") && decide (N[i]? = some y) && visB sc y && plB y && mE b sc r && (ap.endLine == cp.line)
  | .pop i, sc, .Call (.Attribute (.Name y py) m ap) [] [] cp => decide (m = "pop") && decide (N[i]? = some y) && visB sc y && plB y && (ap.endLine == cp.line)
  | .lc own g one w c e, sc, .ListComp elt [⟨tg, iter, ifs, as⟩] sc' _ => decide (as = 0) && mW w sc iter && wT w tg && blkC N sc sc' (ownL N own) && mG N g one sc' tg && (match ifs with | [] => isYes c | [t] => mE c sc' t | _ => false) && mE e sc' elt
  | .lc2 own vs1 g one w c g1 one1 w1 c1 e, sc, .ListComp elt [⟨tg, iter, ifs, as⟩, ⟨tg1, iter1, ifs1, as1⟩] sc' _ => decide (as = 0) && decide (as1 = 0) && mW w sc iter && wT w tg && blkC N sc sc' (ownL N own) && mG N g one sc' tg && (match ifs with | [] => isYes c | [t] => mE c sc' t | _ => false) &&
      mW w1 sc' iter1 && wT w1 tg1 && mG N g1 one1 sc' tg1 && (match ifs1 with | [] => isYes c1 | [t] => mE c1 sc' t | _ => false) && (vs1.all fun i => decide (i ∈ own)) && mE e sc' elt
  | .dc pp own g one w k v, sc, .DictComp kx vx [⟨tg, iter, ifs, as⟩] sc' _ => decide (as = 0) && ifs.isEmpty && mW w sc iter && wT w tg && blkC N sc sc' (ownL N own) && mG N g one sc' tg && mE k sc' kx && mE v sc' vx
  | .dmem pp neg a b, sc, .Compare l [o'] [r] _ => decide (o' = bif neg then CmpOp.NotIn else CmpOp.In) && mE a sc l && mE b sc r && !behindInMarks o' r
  | .dix pp a b, sc, .Subscript l r _ => mE a sc l && mE b sc r && !isSl r
  | .dlen pp a, sc, .Call (.Name x _) [l] [] _ => decide (x = "len") && glB sc x && mE a sc l
  | .dlist pp a, sc, .Call (.Name x _) [l] [] _ => decide (x = "list") && glB sc x && mE a sc l
  | .mint a, sc, .Call (.Name x _) [l] [] _ => decide (x = "min") && glB sc x && mE a sc l
  | .zipl a b, sc, .Call (.Name x _) [.Call (.Name y _) [l, r] [] _] [] _ => decide (x = "list") && decide (y = "zip") && glB sc x && glB sc y && mE a sc l && mE b sc r
  | .ext i b, sc, .Call (.Attribute (.Name y py) m ap) [r] [] cp => decide (m = "extend") && decide (N[i]? = some y) && visB sc y && plB y && mE b sc r && (ap.endLine == cp.line)
  | .mk x k es, sc, .Call (.Name y _) (l :: ls) [] _ => decide (x = y) && decide (k + 1 < n) && decide ((x, k) ∈ sg.ini) && glB sc y && plB y && mEs es sc (l :: ls)
  | .mk0 x, sc, .Call (.Name y _) [] [] _ => decide (x = y) && decide (x ∈ sg.in0) && glB sc y && plB y
  | .fld a f ys, sc, .Attribute l f' _ => decide (f = f') && (ys.all fun y => decide ((y, f) ∈ sg.fl)) && mE a sc l && noSup l
  | .meth a m tab es, sc, .Call (.Attribute l m' ap) (r :: rs) [] cp => decide (m = m') && (tab.all fun t => decide (t.2 < n) && decide (sg.mt[t.2]? = some (t.1, m)) && decide (t.1 ∈ sg.cl)) && mE a sc l && mEs es sc (r :: rs) && (ap.endLine == cp.line) && noSup l && decide (rs.length < 20)
  | .isc a x tab, sc, .Call (.Name i _) [l, .Name t _] [] _ => decide (i = "isinstance") && glB sc i && decide (t = x) && glB sc t && plB t && decide (x ∈ sg.cl) && (tab.all fun t => decide ((t.1, x, t.2) ∈ sg.cs)) && mE a sc l
  | .dnew pp, _, .Dict [] [] _ => true
  | .dget pp a k d, sc, .Call (.Attribute l m ap) [r1, r2] [] cp => decide (m = "get") && mE a sc l && mE k sc r1 && mE d sc r2 && (ap.endLine == cp.line) && noSup l
  | .sdef pp a k d, sc, .Call (.Attribute l m ap) [r1, r2] [] cp => decide (m = "setdefault") && mE a sc l && mE k sc r1 && mE d sc r2 && (ap.endLine == cp.line) && noSup l
  | .appE a b, sc, .Call (.Attribute l m ap) [r] [] cp => decide (m = "append") && mE a sc l && mE b sc r && (ap.endLine == cp.line) && noSup l
  | .cntB a b, sc, .Call (.Attribute l m ap) [r] [] cp => decide (m = "count") && mE a sc l && mE b sc r && (ap.endLine == cp.line) && noSup l
  | .lock e, sc, .ListComp elt gs sc' p => mE e sc (.ListComp elt gs sc' p)
  | .sortT a, sc, .Call (.Name x _) [l] [] _ => decide (x = "sorted") && glB sc x && mE a sc l
  | .lrange a, sc, .Call (.Name x _) [.Call (.Name y _) [l] [] _] [] _ => decide (x = "list") && decide (y = "range") && glB sc x && glB sc y && mE a sc l
  | .inL neg a b, sc, .Compare l [o'] [r] _ => decide (o' = bif neg then CmpOp.NotIn else CmpOp.In) && mE a sc l && mE b sc r && !behindInMarks o' r
  | _, _, _ => false
def mEs : Es → Scope → List Expr → Bool
  | .nil, _, [] => true
  | .cons e es, sc, l :: ls => mE e sc l && mEs es sc ls
  | _, _, _ => false
def mW : W → Scope → Expr → Bool
  | .list e, sc, l => mE e sc l
  | .tup e, sc, l => mE e sc l
  | .rng1 a, sc, .Call (.Name x _) [l] [] _ => decide (x = "range") && glB sc x && mE a sc l
  | .rng2 a b, sc, .Call (.Name x _) [l, r] [] _ => decide (x = "range") && glB sc x && mE a sc l && mE b sc r
  | .enum a, sc, .Call (.Name x _) [l] [] _ => decide (x = "enumerate") && glB sc x && mE a sc l
  | .zip a b, sc, .Call (.Name x _) [l, r] [] _ => decide (x = "zip") && glB sc x && mE a sc l && mE b sc r
  | .revr a, sc, .Call (.Name x _) [.Call (.Name y _) [l] [] _] [] _ => decide (x = "reversed") && decide (y = "range") && glB sc x && glB sc y && mE a sc l
  | .dict pp e, sc, l => mE e sc l
  | _, _, _ => false
end
mutual
def mS : S → Scope → Stmt → Bool
  | .expr e, sc, .Expr l _ => mE N ft gt sg n e sc l && !isLc l
  | .ret e, sc, .Return (some l) _ => mE N ft gt sg n e sc l
  | .retN, _, .Return none _ => true
  | .pass, _, .Pass _ => true
  | .brk, _, .Break _ => true
  | .cont, _, .Continue _ => true
  | .set i e, sc, .Assign [.Name x _] l _ => decide (N[i]? = some x) && locB sc x && mE N ft gt sg n e sc l && (!isLc l || celB sc x)
  | .setLc i own g one w c e, sc, .Assign [.Name x px] (.ListComp elt gs sc' pos) _ => decide (N[i]? = some x) && lclB sc x && (px.line == pos.line) && !(sc'.names.any fun (n, k) => n == x && (k == .local || k == .cell)) && mE N ft gt sg n (.lc own g one w c e) sc (.ListComp elt gs sc' pos)
  | .setLc2 i own vs1 g one w c g1 one1 w1 c1 e, sc, .Assign [.Name x px] (.ListComp elt gs sc' pos) _ => decide (N[i]? = some x) && lclB sc x && (px.line == pos.line) && !(sc'.names.any fun (n, k) => n == x && (k == .local || k == .cell)) && mE N ft gt sg n (.lc2 own vs1 g one w c g1 one1 w1 c1 e) sc (.ListComp elt gs sc' pos)
  | .setDc i pp own g one w k v, sc, .Assign [.Name x px] (.DictComp kx vx gs sc' pos) _ => decide (N[i]? = some x) && lclB sc x && (px.line == pos.line) && !(sc'.names.any fun (n, k) => n == x && (k == .local || k == .cell)) && mE N ft gt sg n (.dc pp own g one w k v) sc (.DictComp kx vx gs sc' pos)
  | .setfld a f ys e, sc, .Assign [.Attribute lo f' _] l _ => decide (f = f') && (ys.all fun y => decide ((y, f) ∈ sg.fl)) && mE N ft gt sg n a sc lo && mE N ft gt sg n e sc l && !isLc l
  | .setT is e, sc, .Assign [.Tuple es _ _] l _ => mNames N sc is es && mE N ft gt sg n e sc l && !isLc l && (!isTp l || hasCel sc es)
  | .par i j a b, sc, .Assign [.Tuple [.Name x px, .Name y py] _ _] (.Tuple [l, r] _ _) _ => decide (N[i]? = some x) && decide (N[j]? = some y) && decide (i ≠ j) && lclB sc x && lclB sc y && decide (x ≠ y) && (px.line == py.line) && !([l, r].all (foldedForSure 8)) && !([l, r].all (constantsAlone 8)) && mE N ft gt sg n a sc l && mE N ft gt sg n b sc r
  | .setix o i e, sc, .Assign [.Subscript lo li _] l _ => mE N ft gt sg n o sc lo && mE N ft gt sg n i sc li && mE N ft gt sg n e sc l && !isLc l && !isSl li
  | .dput pp o i e, sc, .Assign [.Subscript lo li _] l _ => mE N ft gt sg n o sc lo && mE N ft gt sg n i sc li && mE N ft gt sg n e sc l && !isLc l && !isSl li
  | .aug i o e, sc, .AugAssign (.Name x _) o' l _ => decide (o = o') && (decide (o = .Add) || decide (o = .Sub)) && decide (N[i]? = some x) && locB sc x && mE N ft gt sg n e sc l
  | .ife c a b, sc, .If t la lb _ => mE N ft gt sg n c sc t && mSs a sc la && mSs b sc lb
  | .loop c b, sc, .While t l [] _ => mE N ft gt sg n c sc t && mSs b sc l
  | .for g one w b, sc, .For tg iter l [] _ => mG N g one sc tg && mW N ft gt sg n w sc iter && wT w tg && mSs b sc l
  | .never, _, _ => true
  | _, _, _ => false
def mSs : Ss → Scope → List Stmt → Bool
  | .nil, _, [] => true
  | .cons s ss, sc, l :: ls => mS s sc l && mSs ss sc ls
  | _, _, _ => false
end
end
def biNames : List Str := ["len", "sum", "all", "any", "list", "divmod", "abs", "max", "min", "sorted", "tuple", "isinstance", "range", "int", "bool", "str", "dict", "enumerate", "zip", "reversed"]
structure ClF (K : PySem.W.Frag) (mg : Str → Option Value) (x : Str) : Prop where
  mgx : mg x = some (.ref (clsA K x))
  cls : Cls K (clsA K x)
  kp : PySem.W.keepIn K (.ref (clsA K x)) = true
  mkm : PySem.W.makesIn K (clsA K x) = true
  ha : PySem.W.findIn K (.ref (clsA K x)) "__class__" = some (some (.builtin "object.__class__"))
  hn : PySem.W.specialIn K (.builtin "object.__class__") "__get__" = some (some (.builtin "getset_descriptor.__get__"))
  htk : PySem.W.takesIn K (.builtin "object.__class__") = some true
  hm : PySem.W.mroIn K (clsA K x) (.type "object") = some true
  ty : ∀ t : Ty, PySem.W.kitOne K (.type t.nm) (.ref (clsA K x)) = some false
structure SgOk (K : PySem.W.Frag) (mg : Str → Option Value) (sg : Sg) : Prop where
  cl : ∀ x ∈ sg.cl, ClF K mg x
  cs : ∀ y x b, (y, x, b) ∈ sg.cs → y ∈ sg.cl ∧ PySem.W.kitOne K (.ref (clsA K y)) (.ref (clsA K x)) = some b
  in0 : ∀ x ∈ sg.in0, x ∈ sg.cl ∧ PySem.W.findIn K (.ref (clsA K x)) "__init__" = some (some (.builtin "object.__init__"))
  fl : ∀ x f, (x, f) ∈ sg.fl → x ∈ sg.cl ∧ NoAttr K (clsA K x) f
structure Ctx (CX : CXT) (K : PySem.W.Frag) (Γ : Nat → Sp) (gv : Nat → V) (N ft gt : List Str) (sg : Sg) (n : Nat) (sc : Scope) (X : Cx) : Prop where
  hK : X.K = K
  hN : X.N = N
  nd : N.Nodup
  kind : X.env.scope.kind = .function
  loc : ∀ x, sc.names.lookup x = some .local → X.env.scope.names.lookup x = some .local
  cel : ∀ x, sc.names.lookup x = some .cell → X.env.scope.names.lookup x = some .cell
  fre : ∀ x, sc.names.lookup x = some .free → X.env.scope.names.lookup x = some .cell ∨ X.env.scope.names.lookup x = some .free
  glo : ∀ x, sc.names.lookup x = some .globalImplicit → X.env.scope.names.lookup x = some .globalImplicit
  calm : X.calm = true
  fn : ∀ x, sc.names.lookup x = some .cell → X.fn x = true
  room : Room n X.A
  own : PassesOwn (model X.prog X.w) X.A X.env X.xe
  pas : Passes CX X E0
  cx0 : ∀ st H s e s', CX st H s E0 e s' → False
  mgB : ∀ x ∈ biNames, X.mg x = none
  fns : ∀ k f, k < n → ft[k]? = some f → f ≠ "" → ∃ fa fd ps, FnOk X.prog X.w X.K X.mg X.base CX (k + 1) fa fd ps (Γ k) ∧ X.mg f = some (.ref fa) ∧ PySem.W.keepIn X.K (.ref fa) = true ∧ Binds X.K fd ps []
  gvs : ∀ k x, gt[k]? = some x → ∃ u, X.mg x = some u ∧ RelV (gv k) u
  sgo : SgOk K X.mg sg
  mts : ∀ k x m, k < n → sg.mt[k]? = some (x, m) → x ∈ sg.cl → ∃ fa fd ps, FnOk X.prog X.w X.K X.mg X.base CX (k + 1) fa fd ps (Γ k) ∧ Binds X.K fd ps [] ∧ Meth K (clsA K x) m fa
  ins : ∀ k x, k < n → (x, k) ∈ sg.ini → x ∈ sg.cl ∧ ∃ fa fd ps, FnOk X.prog X.w X.K X.mg X.base CX (k + 1) fa fd ps (Γ k) ∧ Binds X.K fd ps [] ∧ Mk K (clsA K x) fa
end L2.IR
set_option Elab.async false
set_option linter.all false
set_option maxRecDepth 100000
set_option maxHeartbeats 4000000
namespace L2.IR
open PySem PySem.Spec PyProof.Rows
variable {X : Cx}
theorem opOk (o : Operator) : OpR X (binaryOp o) (opW o) := by
  intro pins s σ H x y v u Q I rx ry h
  cases o with
  | Add =>
    cases x with
    | int i => cases y with
      | int j => exact op_add pins s σ H _ _ v u Q I rx ry ⟨i, j, rfl, rfl, h⟩
      | _ => exact op_cat pins s σ H _ _ v u Q I rx ry h
    | str i => cases y with
      | str j => exact op_add_str pins s σ H _ _ v u Q I rx ry ⟨i, j, rfl, rfl, h.1, h.2⟩
      | _ => exact op_cat pins s σ H _ _ v u Q I rx ry h
    | _ => exact op_cat pins s σ H _ _ v u Q I rx ry h
  | Sub =>
    cases x with
    | int i => cases y with
      | int j => exact op_sub pins s σ H _ _ v u Q I rx ry ⟨i, j, rfl, rfl, h⟩
      | _ => exact h.elim
    | _ => exact h.elim
  | Mult =>
    cases x with
    | int i => cases y with
      | int j =>
        obtain ⟨t, rfl⟩ := rx
        obtain ⟨t', rfl⟩ := ry
        obtain ⟨h1, h2⟩ := h
        exact mul_int ⟨.int _, H, I.tok _, ⟨_, rfl⟩, h2⟩ h1
      | _ => exact op_rep pins s σ H _ _ v u Q I rx ry h
    | _ => exact op_rep pins s σ H _ _ v u Q I rx ry h
  | FloorDiv =>
    cases x with
    | int i => cases y with
      | int j => exact op_fdiv pins s σ H _ _ v u Q I rx ry ⟨i, j, rfl, rfl, h.1, h.2⟩
      | _ => exact h.elim
    | _ => exact h.elim
  | Mod =>
    cases x with
    | int i => cases y with
      | int j => exact op_mod pins s σ H _ _ v u Q I rx ry ⟨i, j, rfl, rfl, h.1, h.2⟩
      | _ => exact h.elim
    | _ => exact h.elim
  | Pow =>
    cases x with
    | int i => cases y with
      | int j => exact op_pow pins s σ H _ _ v u Q I rx ry ⟨i, j, rfl, rfl, h.1, h.2⟩
      | _ => exact h.elim
    | _ => exact h.elim
  | LShift =>
    cases x with
    | int i => cases y with
      | int j => exact op_shl pins s σ H _ _ v u Q I rx ry ⟨i, j, rfl, rfl, h.1, h.2⟩
      | _ => exact h.elim
    | _ => exact h.elim
  | RShift =>
    cases x with
    | int i => cases y with
      | int j => exact op_shr pins s σ H _ _ v u Q I rx ry ⟨i, j, rfl, rfl, h.1, h.2⟩
      | _ => exact h.elim
    | _ => exact h.elim
  | _ => exact h.elim
theorem dvI {i j : Int} : decide (V.int i = V.int j) = decide (i = j) := by
  rw [Bool.eq_iff_iff]; simp
theorem dvB {i j : Bool} : decide (V.bl i = V.bl j) = decide (i = j) := by
  rw [Bool.eq_iff_iff]; simp
theorem dvS {i j : Str} : decide (V.str i = V.str j) = decide (i = j) := by
  rw [Bool.eq_iff_iff]; simp
theorem eqOk (hu : X.A.units + 64 < cLine) : OpR X (compareOp .Eq) (eqW X.K false) := by
  intro pins s σ H x y v u Q I rx ry h
  cases x with
  | int i => cases y with
    | int j => exact op_eq pins s σ H _ _ v u Q I rx ry ⟨rfl, by rw [dvI]; exact h⟩
    | _ => exact op_eqD hu pins s σ H _ _ v u Q I rx ry h
  | bl i => cases y with
    | bl j => exact op_eq pins s σ H _ _ v u Q I rx ry ⟨rfl, by rw [dvB]; exact h⟩
    | _ => exact op_eqD hu pins s σ H _ _ v u Q I rx ry h
  | str i => cases y with
    | str j => exact op_eq pins s σ H _ _ v u Q I rx ry ⟨rfl, by rw [dvS]; exact h⟩
    | _ => exact op_eqD hu pins s σ H _ _ v u Q I rx ry h
  | _ => exact op_eqD hu pins s σ H _ _ v u Q I rx ry h
theorem neOk (hu : X.A.units + 64 < cLine) : OpR X (compareOp .NotEq) (eqW X.K true) := by
  intro pins s σ H x y v u Q I rx ry h
  cases x with
  | int i => cases y with
    | int j => exact op_ne pins s σ H _ _ v u Q I rx ry ⟨rfl, by rw [dvI]; exact h⟩
    | _ => exact op_neD hu pins s σ H _ _ v u Q I rx ry h
  | bl i => cases y with
    | bl j => exact op_ne pins s σ H _ _ v u Q I rx ry ⟨rfl, by rw [dvB]; exact h⟩
    | _ => exact op_neD hu pins s σ H _ _ v u Q I rx ry h
  | str i => cases y with
    | str j => exact op_ne pins s σ H _ _ v u Q I rx ry ⟨rfl, by rw [dvS]; exact h⟩
    | _ => exact op_neD hu pins s σ H _ _ v u Q I rx ry h
  | _ => exact op_neD hu pins s σ H _ _ v u Q I rx ry h
theorem cmpOk (hu : X.A.units + 64 < cLine) (o : CmpOp) : OpR X (compareOp o) (cmpW X.K o) := by
  intro pins s σ H x y v u Q I rx ry h
  cases o with
  | Eq => exact eqOk hu pins s σ H x y v u Q I rx ry h
  | NotEq => exact neOk hu pins s σ H x y v u Q I rx ry h
  | Lt =>
    cases x with
    | int i => cases y with
      | int j => exact op_lt pins s σ H _ _ v u Q I rx ry ⟨i, j, rfl, rfl, h⟩
      | _ => exact h.elim
    | _ => exact h.elim
  | LtE =>
    cases x with
    | int i => cases y with
      | int j => exact op_le pins s σ H _ _ v u Q I rx ry ⟨i, j, rfl, rfl, h⟩
      | _ => exact h.elim
    | _ => exact h.elim
  | Gt =>
    cases x with
    | int i => cases y with
      | int j => exact op_gt pins s σ H _ _ v u Q I rx ry ⟨i, j, rfl, rfl, h⟩
      | _ => exact h.elim
    | _ => exact h.elim
  | GtE =>
    cases x with
    | int i => cases y with
      | int j => exact op_ge pins s σ H _ _ v u Q I rx ry ⟨i, j, rfl, rfl, h⟩
      | _ => exact h.elim
    | _ => exact h.elim
  | Is =>
    cases y with
    | bl b => cases x with
      | bl a => exact op_isB pins s σ H _ _ v u Q I rx ry ⟨a, b, rfl, rfl, h⟩
      | _ => exact h.elim
    | _ => exact op_isN pins s σ H x _ v u Q I rx ry h
  | IsNot =>
    cases y with
    | bl b => cases x with
      | bl a => exact op_isnotB pins s σ H _ _ v u Q I rx ry ⟨a, b, rfl, rfl, h⟩
      | _ => exact h.elim
    | _ => exact op_notN pins s σ H x _ v u Q I rx ry h
  | In => exact op_in_seq pins s σ H x y v u Q I rx ry h
  | NotIn => exact op_notIn_seq pins s σ H x y v u Q I rx ry h
theorem ixOk : IxR X (ixW X.K) := by
  intro value slice pins s σ H x y v u Q I rx ry h hs
  cases x with
  | ref p => cases y with
    | int i =>
      obtain ⟨xs, w, hq | hq, ha, q⟩ := h
      · exact ix_list value slice pins s σ H _ _ v u Q I rx ry ⟨_, xs, _, w, rfl, rfl, hq, ha, q⟩ hs
      · exact ix_tup value slice pins s σ H _ _ v u Q I rx ry ⟨_, xs, _, w, rfl, rfl, hq, ha, q⟩ hs
    | _ => exact h.elim
  | _ => exact h.elim
theorem slOk : SlR X (slW X.K) := by
  intro pins s σ H x v vl vu lo hi sl Q I rx hs pl pu h
  cases x with
  | ref p =>
    obtain ⟨xs, hq, q⟩ := h
    exact sl_list pins s σ H _ v vl vu lo hi sl Q I rx hs pl pu ⟨_, xs, rfl, hq, q⟩
  | _ => exact h.elim
theorem kit_ty (K : PySem.W.Frag) (t T : Ty) (h : T ≠ .non) : PySem.W.kitOne K (.type t.nm) (.type T.nm) = some (Ty.sub t T) := by
  cases t <;> cases T <;> first | exact absurd rfl h | rfl
theorem isiOk (T : Ty) (hT : T ≠ .non) : CallR X (.builtin "isinstance") (fun xs H Q => ∃ x, xs = [x, .ty T.nm] ∧ isiW X.K T x H Q) := by
  intro pins s σ H xs us Q I r h
  obtain ⟨x, rfl, h⟩ := h
  obtain ⟨u, u2, rfl, r1, r2⟩ := vals2 r
  cases (show u2 = Value.type T.nm from r2)
  cases x with
  | int i => exact isinst_ok I r1 (.int i) (kit_ty X.K .int T hT) fun tk => ⟨.bl _, H, I.tok _, rfl, h⟩
  | bl i => exact isinst_ok I r1 (.bl i) (kit_ty X.K .bool T hT) fun tk => ⟨.bl _, H, I.tok _, rfl, h⟩
  | str i => exact isinst_ok I r1 (.str i) (kit_ty X.K .str T hT) fun tk => ⟨.bl _, H, I.tok _, rfl, h⟩
  | non => exact isinst_ok I r1 .non (kit_ty X.K .non T hT) fun tk => ⟨.bl _, H, I.tok _, rfl, h⟩
  | ref a =>
    obtain ⟨t, ht, q⟩ := h
    exact isinst_ok I r1 ht (kit_ty X.K t T hT) fun tk => ⟨.bl _, H, I.tok _, rfl, q⟩
  | _ => exact h.elim
def Bi.val : Bi → Value
  | .len => .builtin "len" | .sum => .builtin "sum" | .all => .builtin "all" | .any => .builtin "any" | .list => .type "list" | .divmod => .builtin "divmod" | .abs => .builtin "abs" | .max => .builtin "max" | .min => .builtin "min" | .sorted => .builtin "sorted" | .tuple => .type "tuple"
theorem Bi.boot (f : Bi) : bootBuiltins f.nm = some f.val := by cases f <;> decide +kernel
theorem Bi.mem (f : Bi) : f.nm ∈ biNames := by cases f <;> decide +kernel
theorem Bi.pl (f : Bi) : plB f.nm = true := by cases f <;> decide +kernel
theorem biOk (hc : X.calm = true) (f : Bi) : CallR X f.val (biW X.K f) := by
  intro pins s σ H xs us Q I r h
  cases f with
  | len => match xs, h with
    | [.ref p], ⟨ys, hy, q⟩ => exact call_len_seq pins s σ H _ us Q I r ⟨p, ys, rfl, hy, q⟩
    | [.str z], ⟨h1, q⟩ => exact call_len_str pins s σ H _ us Q I r ⟨z, rfl, h1, q⟩
  | sum => exact cr_sum hc pins s σ H xs us Q I r h
  | all => exact cr_all hc pins s σ H xs us Q I r h
  | any => exact cr_any hc pins s σ H xs us Q I r h
  | list => match xs, h with
    | [.ref p], ⟨ys, hy, q⟩ => exact call_list_of pins s σ H _ us Q I r ⟨p, ys, rfl, hy, q⟩
  | tuple => match xs, h with
    | [.ref p], ⟨ys, hy, q⟩ => exact call_tuple_of pins s σ H _ us Q I r ⟨p, ys, rfl, .inl ⟨hy, q⟩⟩
  | divmod => match xs, h with
    | [.int i, .int j], ⟨h1, q⟩ => exact call_divmod pins s σ H _ us Q I r ⟨i, j, rfl, h1, q⟩
  | abs => match xs, h with
    | [.int i], h => exact call_abs pins s σ H _ us Q I r ⟨i, rfl, h⟩
  | max => match xs, h with
    | [.int i, .int j], h => exact call_max2 hc pins s σ H _ us Q I r ⟨i, j, rfl, h⟩
  | min => match xs, h with
    | [.int i, .int j], h => exact call_min2 hc pins s σ H _ us Q I r ⟨i, j, rfl, h⟩
  | sorted => exact cr_sorted pins s σ H xs us Q I r h
end L2.IR
set_option Elab.async false
set_option linter.all false
set_option maxRecDepth 100000
set_option maxHeartbeats 4000000
namespace L2.IR
open PySem PySem.Spec PyProof.Rows
theorem visB_of {sc : Scope} {x : Str} (h : visB sc x = true) : Vis sc x := by
  unfold visB at h
  unfold Vis
  split at h <;> first | exact .inl (by assumption) | exact .inr (.inl (by assumption)) | exact .inr (.inr (by assumption)) | cases h
theorem locB_of {sc : Scope} {x : Str} (h : locB sc x = true) : Loc sc x := by
  unfold locB at h
  unfold Loc
  split at h <;> first | exact .inl (by assumption) | exact .inr (by assumption) | cases h
theorem lclB_of {sc : Scope} {x : Str} (h : lclB sc x = true) : sc.names.lookup x = some .local := by
  unfold lclB at h
  split at h <;> first | assumption | cases h
theorem glB_of {sc : Scope} {x : Str} (h : glB sc x = true) : sc.names.lookup x = some .globalImplicit := by
  unfold glB at h
  split at h <;> first | assumption | cases h
theorem plB_of {x : Str} (h : plB x = true) : (x == ("__debug__" : Str)) = false ∧ (x == ("__classdict__" : Str)) = false ∧ x ≠ "__name__" := by
  unfold plB at h
  simp only [Bool.and_eq_true, Bool.not_eq_true', decide_eq_true_eq] at h
  exact ⟨h.1.1, h.1.2, h.2⟩
theorem asB_eq (F : Bool → Prop) (x : V) : asB F x = ∃ c, x = .bl c ∧ F c := by
  cases x <;> simp [asB]
theorem asI_eq (F : Int → Prop) (x : V) : asI F x = ∃ c, x = .int c ∧ F c := by
  cases x <;> simp [asI]
theorem atS_eq (σ : St) (i : Nat) (F : V → Prop) : atS σ i F = ∃ v, σ[i]? = some (some v) ∧ F v := by
  unfold atS
  split
  · rename_i v h
    simp [h]
  · rename_i h
    simp only [eq_iff_iff, false_iff, not_exists, not_and]
    intro v hv
    exact absurd hv (by simpa using h v)
section
variable {N ft gt : List Str} {sg : Sg} {n : Nat} {sc : Scope}
theorem star_of {ir : E} {e : Expr} (h : mE N ft gt sg n ir sc e = true) (es : List Expr) (env : Env) : starEach (e :: es) env = (false, eval e env) :: starEach es env := by
  cases e with
  | Starred v p =>
    have z : mE N ft gt sg n ir sc (.Starred v p) = false := by cases ir <;> rfl
    rw [z] at h
    cases h
  | _ => rfl
theorem nostar {ir : Es} {ls : List Expr} (h : mEs N ft gt sg n ir sc ls = true) (pos : Pos) (env : Env) : (backTo pos (starEach ls env)).any (·.1) = false := by
  induction ls generalizing ir with
  | nil => rfl
  | cons l ls ih =>
    cases ir with
    | nil => simp [mEs] at h
    | cons e es =>
      simp only [mEs, Bool.and_eq_true] at h
      rw [star_of h.1]
      have := ih h.2
      simpa [backTo] using this
end
end L2.IR
set_option Elab.async false
set_option linter.all false
set_option maxRecDepth 100000
set_option maxHeartbeats 4000000
namespace L2.IR
open PySem PySem.Spec PyProof.Rows
theorem PE.eqv {X : Cx} {e : Expr} {t t' : TE} (h : PE X e t) (q : t' = t) : PE X e t' := by subst q; exact h
theorem PT.eqv {X : Cx} {e : Expr} {t t' : TT} (h : PT X e t) (q : t' = t) : PT X e t' := by subst q; exact h
section
variable {CX : CXT} {K : PySem.W.Frag} {Γ : Nat → Sp} {gv : Nat → V} {N ft gt : List Str} {sg : Sg} {n : Nat} {sc : Scope} {X : Cx}
theorem Ctx.units (C : Ctx CX K Γ gv N ft gt sg n sc X) : X.A.units + 64 < cLine := C.room.units
theorem Ctx.gl (C : Ctx CX K Γ gv N ft gt sg n sc X) {x : Str} (h : glB sc x = true) : Gl X x := by
  exact C.glo x (glB_of h)
theorem Ctx.vis (C : Ctx CX K Γ gv N ft gt sg n sc X) {x : Str} (h : visB sc x = true) : Vis X.env.scope x := by
  rcases visB_of h with q | q | q
  · exact .inl (C.loc x q)
  · exact .inr (.inl (C.cel x q))
  · exact .inr (C.fre x q)
theorem peVar (C : Ctx CX K Γ gv N ft gt sg n sc X) {i : Nat} {x : Str} {pos : Pos} (h1 : N[i]? = some x) (h2 : visB sc x = true) (h3 : plB x = true) : PE X (.Name x pos) (tVar i) :=
  pe_var (by rw [C.hN]; exact h1) (C.vis h2) (plB_of h3).1 (plB_of h3).2.1
theorem peCall (C : Ctx CX K Γ gv N ft gt sg n sc X) {k : Nat} {x : Str} {p pos : Pos} {l : Expr} {ls : List Expr} {ir : E} {is : Es} (hk : k < n) (hf : ft[k]? = some x) (hg : glB sc x = true) (hp : plB x = true) (hne : x ≠ "")
    (h : mEs N ft gt sg n (.cons ir is) sc (l :: ls) = true) (ha : PA X (l :: ls) (wpEs K Γ gv (.cons ir is))) : PE X (.Call (.Name x p) (l :: ls) [] pos) (wpE K Γ gv (.call k (.cons ir is))) := by
  obtain ⟨fa, fd, ps, F, hm, hkp, hb⟩ := C.fns k x hk hf hne
  simp only [mEs, Bool.and_eq_true] at h
  refine PE.eqv (pe_call F (C.room.mono (by omega)) (C.gl hg) hm hkp hb .nil C.pas ha (plB_of hp).1 (star_of h.1 _ _) (nostar h.2 _ _)) ?_
  funext σ H Q
  simp only [wpE, tCall, List.append_nil]
theorem peBi (C : Ctx CX K Γ gv N ft gt sg n sc X) {f : Bi} {p pos : Pos} {l : Expr} {ls : List Expr} {ir : E} {is : Es} (hg : glB sc f.nm = true)
    (h : mEs N ft gt sg n (.cons ir is) sc (l :: ls) = true) (ha : PA X (l :: ls) (wpEs K Γ gv (.cons ir is))) : PE X (.Call (.Name f.nm p) (l :: ls) [] pos) (wpE K Γ gv (.bi f (.cons ir is))) := by
  simp only [mEs, Bool.and_eq_true] at h
  have hc := biOk (X := X) C.calm f
  have hb := f.boot
  have pl := plB_of f.pl
  have hm := C.mgB _ f.mem
  have hK := C.hK
  subst hK
  refine PE.eqv (t := tCB (biW X.K f) (wpEs X.K Γ gv (.cons ir is))) ?_ rfl
  generalize f.nm = x at *
  cases f <;> first
    | exact pe_callB hc (C.gl hg) hm hb ha pl.2.2 pl.1 (star_of h.1 _ _) (nostar h.2 _ _)
    | exact pe_callTy hc (C.gl hg) hm hb ha pl.2.2 pl.1 (star_of h.1 _ _) (nostar h.2 _ _)
theorem Ty.boot (T : Ty) (h : T ≠ .non) : bootBuiltins (Str.ofString T.nm) = some (.type T.nm) := by cases T <;> first | exact absurd rfl h | decide +kernel
theorem Ty.mem (T : Ty) (h : T ≠ .non) : Str.ofString T.nm ∈ biNames := by cases T <;> first | exact absurd rfl h | decide +kernel
theorem Ty.pl (T : Ty) (h : T ≠ .non) : plB (Str.ofString T.nm) = true := by cases T <;> first | exact absurd rfl h | decide +kernel
theorem peIsi (C : Ctx CX K Γ gv N ft gt sg n sc X) {T : Ty} {p q pos : Pos} {l : Expr} {a : E} (hg : glB sc "isinstance" = true) (ht : glB sc (Str.ofString T.nm) = true) (hT : T ≠ .non)
    (h : mE N ft gt sg n a sc l = true) (ha : PE X l (wpE K Γ gv a)) : PE X (.Call (.Name "isinstance" p) [l, .Name (Str.ofString T.nm) q] [] pos) (wpE K Γ gv (.isi a T)) := by
  have pl := plB_of (Ty.pl T hT)
  have hK := C.hK
  subst hK
  have hty : PE X (.Name (Str.ofString T.nm) q) (tC (.ty T.nm)) := pe_bltn (C.gl ht) (C.mgB _ (Ty.mem T hT)) (Ty.boot T hT) rfl pl.2.2 pl.1
  have hPA : PA X [l, .Name (Str.ofString T.nm) q] (tCons (wpE X.K Γ gv a) (tCons (tC (.ty T.nm)) tNil)) := pa_cons ha (pa_cons hty pa_nil) (star_of h _ _)
  refine PE.eqv (pe_callB (isiOk T hT) (C.gl hg) (C.mgB _ (by decide +kernel)) (by decide +kernel) hPA (by decide +kernel) (by decide +kernel) (star_of h _ _) rfl) ?_
  funext σ H Q
  simp only [wpE, tCB, tCons, tC, tNil]
  congr 1
  funext x H1
  simp
theorem star1 {ir : E} {e : Expr} (h : mE N ft gt sg n ir sc e = true) (env : Env) (cpos : Pos) : ((backTo cpos (starEach [e] env)).all (fun x => !x.1) && (backToKw cpos (keywordEach [] env)).all (fun x => x.1.isSome)
      && decide ([e].length + ([] : List Keyword).length + (if ([] : List Keyword).isEmpty then 0 else 1) < 30)) = true := by
  rw [star_of h]
  rfl
theorem peApp (C : Ctx CX K Γ gv N ft gt sg n sc X) {i : Nat} {y : Str} {py ap cp : Pos} {r : Expr} {b : E} (h1 : N[i]? = some y) (h2 : visB sc y = true) (h3 : plB y = true) (hl : (ap.endLine == cp.line) = true)
    (h : mE N ft gt sg n b sc r = true) (hb : PE X r (wpE K Γ gv b)) : PE X (.Call (.Attribute (.Name y py) "append" ap) [r] [] cp) (wpE K Γ gv (.app i b)) := by
  have q := pe_bm PySem.F.plainAttrs_list PySem.F.slot_list_append PySem.F.type_list_append (mt_append (X := X)) (peVar C (pos := py) h1 h2 h3) (pa_cons hb pa_nil (star_of h _ _)) rfl (star1 h _ _) hl (star_of h _ _) rfl
  intro pins s σ H Q I hw
  refine q pins s σ H Q I ?_
  simp only [wpE, atS_eq] at hw
  obtain ⟨v, hv, ⟨l, xs, rfl, hl⟩, hw⟩ := hw
  refine ⟨_, hv, .inl ⟨rfl, xs, SqL.of hl⟩, ?_⟩
  show wpE K Γ gv b σ H fun y' H2 => rAppend (V.ref l) [y'] H2 Q
  have e : (fun (y' : V) (H2 : Hp) => rAppend (V.ref l) [y'] H2 Q) = fun y' H2 => ∃ l' xs, V.ref l = .ref l' ∧ H2 l' = some (.lst xs) ∧ xs.length < sizeLine ∧ Q .non (upd H2 l' (.lst (xs ++ [y']))) := by
    funext y' H2
    simp [rAppend]
  rw [e]
  exact hw
theorem pePop (C : Ctx CX K Γ gv N ft gt sg n sc X) {i : Nat} {y : Str} {py ap cp : Pos} (h1 : N[i]? = some y) (h2 : visB sc y = true) (h3 : plB y = true) (hl : (ap.endLine == cp.line) = true) :
    PE X (.Call (.Attribute (.Name y py) "pop" ap) [] [] cp) (wpE K Γ gv (.pop i)) := by
  have q := pe_bm0 PySem.F.plainAttrs_list PySem.F.slot_list_pop PySem.F.type_list_pop (mt_pop (X := X)) (peVar C (pos := py) h1 h2 h3) rfl hl
  intro pins s σ H Q I hw
  refine q pins s σ H Q I ?_
  simp only [wpE, atS_eq] at hw
  obtain ⟨v, hv, l, xs, y', rfl, hl, hw⟩ := hw
  refine ⟨_, hv, .inl ⟨rfl, _, SqL.of hl⟩, l, xs ++ [y'], y', rfl, rfl, hl, by simp, ?_⟩
  rw [List.dropLast_concat]
  exact hw
end
end L2.IR
set_option Elab.async false
set_option linter.all false
set_option maxRecDepth 100000
set_option maxHeartbeats 4000000
namespace L2.IR
open PySem PySem.Spec PyProof.Rows
section
variable {CX : CXT} {K : PySem.W.Frag} {Γ : Nat → Sp} {gv : Nat → V} {N ft gt : List Str} {sg : Sg} {n : Nat} {sc : Scope} {X : Cx}
theorem pgName (C : Ctx CX K Γ gv N ft gt sg n sc X) {i : Nat} {x : Str} {pos : Pos} (h1 : N[i]? = some x) (h2 : locB sc x = true) : PG X (.Name x pos) (gName i) := by
  have hl := locB_of h2
  rcases hl with q | q
  · exact pg_name (by rw [C.hN]; exact C.nd) (by rw [C.hN]; exact h1) (.inl (C.loc x q)) (.inr (C.loc x q))
  · exact pg_name (by rw [C.hN]; exact C.nd) (by rw [C.hN]; exact h1) (.inr (C.cel x q)) (.inl (C.fn x q))
theorem lk_relabel {env : Env} : ∀ {names : List (Str × NameKind)} {x : Str} {k : NameKind}, names.lookup x = some k →
    (names.map fun (n, k) => if (k == NameKind.free && env.scope.kind == .function && env.kindOf n == some .cell) then (n, NameKind.cell) else (n, k)).lookup x = some k ∨
    (k = .free ∧ (names.map fun (n, k) => if (k == NameKind.free && env.scope.kind == .function && env.kindOf n == some .cell) then (n, NameKind.cell) else (n, k)).lookup x = some .cell)
  | [], _, _, h => by simp at h
  | (m, k') :: r, x, k, h => by
    have ih := @lk_relabel env r x k
    show List.lookup x ((if (k' == NameKind.free && env.scope.kind == .function && env.kindOf m == some .cell) = true then (m, NameKind.cell) else (m, k')) :: _) = _ ∨ (_ ∧ List.lookup x ((if (k' == NameKind.free && env.scope.kind == .function && env.kindOf m == some .cell) = true then (m, NameKind.cell) else (m, k')) :: _) = _)
    cases hx : x == m with
    | true =>
      simp only [List.lookup_cons, hx] at h
      cases h
      by_cases hc : (k' == NameKind.free && env.scope.kind == .function && env.kindOf m == some .cell) = true
      · rw [if_pos hc]
        refine .inr ⟨?_, by simp [List.lookup_cons, hx]⟩
        simp only [Bool.and_eq_true, beq_iff_eq] at hc
        exact hc.1.1
      · rw [if_neg hc]
        exact .inl (by simp [List.lookup_cons, hx])
    | false =>
      simp only [List.lookup_cons, hx] at h
      by_cases hc : (k' == NameKind.free && env.scope.kind == .function && env.kindOf m == some .cell) = true
      · rw [if_pos hc]; simp only [List.lookup_cons, hx]; exact ih h
      · rw [if_neg hc]; simp only [List.lookup_cons, hx]; exact ih h
theorem lk_keep {env : Env} {sc : Scope} {x : Str} {k : NameKind} (h : sc.names.lookup x = some k) (hk : k ≠ .free) : (relabel sc env).names.lookup x = some k := by
  rcases lk_relabel (env := env) h with q | ⟨q, _⟩
  · exact q
  · exact absurd q hk
theorem lk_free {env : Env} {sc : Scope} {x : Str} (h : sc.names.lookup x = some .free) : (relabel sc env).names.lookup x = some .cell ∨ (relabel sc env).names.lookup x = some .free := by
  rcases lk_relabel (env := env) h with q | ⟨_, q⟩
  · exact .inr q
  · exact .inl q
theorem pgsNames (C : Ctx CX K Γ gv N ft gt sg n sc X) : ∀ {is : List Nat} {es : List Expr}, mNames N sc is es = true → PGs X es (fun vs σ H Q => vs.length = is.length ∧ Q (gsW is vs σ) H)
  | [], [], _ => by
    intro pins s σ H vs us Q I r h
    obtain ⟨hl, h⟩ := h
    have e : vs = [] := List.length_eq_zero_iff.mp hl
    subst e
    exact pgs_nil pins s σ H [] us Q I r ⟨rfl, h⟩
  | i :: is, e :: es, h => by
    cases e with
    | Name x p =>
      simp only [mNames, Bool.and_eq_true, decide_eq_true_eq] at h
      intro pins s σ H vs us Q I r hq
      refine pgs_cons (pgName C (pos := p) h.1.1 h.1.2) (pgsNames C h.2) rfl pins s σ H vs us Q I r ?_
      obtain ⟨hl, hq⟩ := hq
      cases vs with
      | nil => simp at hl
      | cons v vs => exact ⟨v, vs, rfl, by simpa using hl, hq⟩
    | _ => simp [mNames] at h
  | [], _ :: _, h => by simp [mNames] at h
  | _ :: _, [], h => by simp [mNames] at h
theorem names_len : ∀ {is : List Nat} {es : List Expr} {env : Env}, mNames N sc is es = true → (assignEach es env).length = is.length ∧ (assignEach es env).findIdx? (·.1) = none
  | [], [], _, _ => ⟨rfl, rfl⟩
  | i :: is, e :: es, env, h => by
    cases e with
    | Name x p =>
      simp only [mNames, Bool.and_eq_true, decide_eq_true_eq] at h
      obtain ⟨h1, h2⟩ := names_len (env := env) h.2
      have e : assignEach (.Name x p :: es) env = (false, assign (.Name x p) env) :: assignEach es env := rfl
      rw [e]
      exact ⟨by simp [h1], by simp [List.findIdx?_cons, h2]⟩
    | _ => simp [mNames] at h
  | [], _ :: _, _, h => by simp [mNames] at h
  | _ :: _, [], _, h => by simp [mNames] at h
theorem pgG (C : Ctx CX K Γ gv N ft gt sg n sc X) {g : List Nat} {one : Bool} {e : Expr} (h : mG N g one sc e = true) : PG X e (gW K g one) := by
  cases one with
  | true =>
    match g, e, h with
    | [i], .Name x p, h =>
      simp only [mG, Bool.and_eq_true, decide_eq_true_eq] at h
      exact pgName C h.1 h.2
  | false =>
    cases e with
    | Tuple es k p =>
      have h : mNames N sc g es = true := by simpa [mG] using h
      have hK := C.hK
      subst hK
      have q := pg_tup (X := X) (k := k) (pos := p) C.calm (pgsNames C h) (names_len h).1 (names_len h).2
      intro pins s σ H v u Q I r hw
      obtain ⟨a, xs, e, hs, hl, hq⟩ := (show ∃ a xs, v = .ref a ∧ SqT X.K H a xs ∧ xs.length = g.length ∧ Q (gsW g xs σ) H from hw)
      exact q pins s σ H v u Q I r ⟨a, xs, e, hs, hl, hl, hq⟩
    | _ => simp [mG] at h
theorem Ctx.blk (C : Ctx CX K Γ gv N ft gt sg n sc X) (sc' : Scope) (s : Shared) (H : Hp) (D : Addr) (cl : List (Str × Addr)) (fp : List Addr) (hk : sc'.kind = .function) : Ctx CX K Γ gv N ft gt sg n sc' (X.blk s H sc' (compEnvC sc' cl D X.env) fp) where
  hK := C.hK
  hN := C.hN
  nd := C.nd
  kind := hk
  loc := fun x h => lk_keep h (by decide)
  cel := fun x h => lk_keep h (by decide)
  fre := fun x h => lk_free h
  glo := fun x h => lk_keep h (by decide)
  calm := C.calm
  fn := fun x h => by show (sc'.names.lookup x == some .cell) = true; rw [h]; rfl
  room := C.room
  own := PassesOwn.never
  pas := fun _ _ _ _ _ _ _ h => (C.cx0 _ _ _ _ _ h).elim
  cx0 := C.cx0
  mgB := C.mgB
  fns := C.fns
  gvs := C.gvs
  sgo := C.sgo
  mts := C.mts
  ins := C.ins
theorem noset {ir : E} {e : Expr} (h : mE N ft gt sg n ir sc e = true) (env : Env) (x : Value) : foldedSetIterable e env x = pure x := by
  cases e with
  | Set a b c =>
    have z : mE N ft gt sg n ir sc (.Set a b c) = false := by cases ir <;> rfl
    rw [z] at h
    cases h
  | _ => rfl
theorem nosetW {w : W} {e : Expr} (h : mW N ft gt sg n w sc e = true) (env : Env) (x : Value) : foldedSetIterable e env x = pure x := by
  cases w with
  | list a => exact noset (by simpa [mW] using h) env x
  | tup a => exact noset (by simpa [mW] using h) env x
  | rng1 a => cases e <;> first | rfl | (simp [mW] at h; done)
  | rng2 a b => cases e <;> first | rfl | (simp [mW] at h; done)
  | enum a => cases e <;> first | rfl | (simp [mW] at h; done)
  | zip a b => cases e <;> first | rfl | (simp [mW] at h; done)
  | revr a => cases e <;> first | rfl | (simp [mW] at h; done)
  | dict pp a => exact noset (by simpa [mW] using h) env x
theorem Ctx.blkOk (C : Ctx CX K Γ gv N ft gt sg n sc X) {sc' : Scope} {own : List (Str × Nat)} (h : BlkOk N sc sc' own) : BlkOk X.N X.env.scope sc' own := by
  rw [C.hN]
  refine ⟨h.kind, h.uniq, h.ix, fun y hy e => ?_, h.own⟩
  rcases h.free y hy e with q | q
  · exact .inl (C.cel _ q)
  · exact C.fre _ q
end
end L2.IR
set_option Elab.async false
set_option linter.all false
set_option maxRecDepth 100000
set_option maxHeartbeats 4000000
namespace L2.IR
open PySem PySem.Spec PyProof.Rows
section
variable {CX : CXT} {K : PySem.W.Frag} {Γ : Nat → Sp} {gv : Nat → V} {N ft gt : List Str} {sg : Sg} {n : Nat} {sc : Scope} {X : Cx}
variable {a b c : E} {l m r : Expr} {pos : Pos}
theorem peNeg (ha : PE X l (wpE K Γ gv a)) : PE X (.UnaryOp .USub l pos) (wpE K Γ gv (.neg a)) := by
  refine PE.eqv (pe_un un_neg ha) ?_
  funext σ H Q
  simp only [wpE, tUn, rU, asI_eq]
theorem peCmp (C : Ctx CX K Γ gv N ft gt sg n sc X) {o : CmpOp} (ha : PE X l (wpE K Γ gv a)) (hb : PE X r (wpE K Γ gv b)) (hm : behindInMarks o r = false) : PE X (.Compare l [o] [r] pos) (wpE K Γ gv (.cmp o a b)) := by
  have q := pe_cmpR (pos := pos) (cmpOk C.units o) ha hb hm
  rw [C.hK] at q
  exact q
theorem ptCmp (C : Ctx CX K Γ gv N ft gt sg n sc X) {o : CmpOp} (ha : PE X l (wpE K Γ gv a)) (hb : PE X r (wpE K Γ gv b)) (hm : behindInMarks o r = false) : PT X (.Compare l [o] [r] pos) (wpT K Γ gv (.cmp o a b)) := by
  have q := pt_cmpR (pos := pos) (cmpOk C.units o) ha hb hm
  rw [C.hK] at q
  refine PT.eqv q ?_
  funext σ H Q
  simp only [wpT, tTest, tOp, asB_eq]
theorem peChain (C : Ctx CX K Γ gv N ft gt sg n sc X) {o p : CmpOp} (ha : PE X l (wpE K Γ gv a)) (hb : PE X m (wpE K Γ gv b)) (hc : PE X r (wpE K Γ gv c)) (hm : behindInMarks p r = false) : PE X (.Compare l [o, p] [m, r] pos) (wpE K Γ gv (.chain o p a b c)) := by
  have q := pe_chain (pos := pos) (cmpOk C.units o) (cmpOk C.units p) ha hb hc hm
  rw [C.hK] at q
  refine PE.eqv q ?_
  funext σ H Q
  simp only [wpE, tChain, asB_eq]
theorem ptChain (C : Ctx CX K Γ gv N ft gt sg n sc X) {o p : CmpOp} (ha : PE X l (wpE K Γ gv a)) (hb : PE X m (wpE K Γ gv b)) (hc : PE X r (wpE K Γ gv c)) (hm : behindInMarks p r = false) : PT X (.Compare l [o, p] [m, r] pos) (wpT K Γ gv (.chain o p a b c)) := by
  have q := pt_chain (pos := pos) (cmpOk C.units o) (cmpOk C.units p) ha hb hc hm
  rw [C.hK] at q
  refine PT.eqv q ?_
  funext σ H Q
  simp only [wpT, tTest, tChain, asB_eq]
  congr 1; funext x H1; congr 1; funext y H2; congr 1; funext z H3
  simp
theorem peAnd {rest : List Expr} (ha : PE X l (wpE K Γ gv a)) (hb : PE X (.BoolOp .And (m :: rest) pos) (wpE K Γ gv b)) : PE X (.BoolOp .And (l :: m :: rest) pos) (wpE K Γ gv (.and a b)) := by
  refine PE.eqv (pe_and ha hb) ?_
  funext σ H Q
  simp only [wpE, tAndV, asB_eq]
theorem peOr {rest : List Expr} (ha : PE X l (wpE K Γ gv a)) (hb : PE X (.BoolOp .Or (m :: rest) pos) (wpE K Γ gv b)) : PE X (.BoolOp .Or (l :: m :: rest) pos) (wpE K Γ gv (.or a b)) := by
  refine PE.eqv (pe_or ha hb) ?_
  funext σ H Q
  simp only [wpE, tOrV, asB_eq]
theorem peNot (ha : PE X l (wpE K Γ gv a)) : PE X (.UnaryOp .Not l pos) (wpE K Γ gv (.not a)) := by
  refine PE.eqv (pe_not ha) ?_
  funext σ H Q
  simp only [wpE, tNotV, asB_eq]
theorem tru_eq : (fun (Q : Bool → Hp → Prop) (x : V) (H' : Hp) => ∃ k, TruV K x H' k ∧ Q k H') = fun Q x H' => truW K x H' Q := by
  funext Q x H'
  cases x <;> simp [truW, TruV]
theorem ptTru (C : Ctx CX K Γ gv N ft gt sg n sc X) {e : Expr} {t : TE} (h : PE X e t) (he : ∀ whole, isTrue e X.env whole = (do let v ← whole; standAt e.pos; holding [v] (truthy v))) : PT X e (fun σ H Q => t σ H fun x H1 => truW K x H1 Q) := by
  have q := pt_truth h he
  rw [C.hK] at q
  refine PT.eqv q ?_
  funext σ H Q
  exact congrArg (t σ H) (congrFun (tru_eq (K := K)) Q).symm
theorem peSlT (C : Ctx CX K Γ gv N ft gt sg n sc X) {p2 : Pos} (ha : PE X l (wpE K Γ gv a)) (hb : PE X r (wpE K Γ gv b)) : PE X (.Subscript l (.Slice none (some r) none p2) pos) (wpE K Γ gv (.slT a b)) := by
  have q := pe_slice (pos := pos) (p2 := p2) slOk ha po_none (po_some hb)
  rw [C.hK] at q
  refine PE.eqv q ?_
  funext σ H Q
  simp only [wpE, tSl, tNoPart, tPart, asI_eq]
theorem peSlF (C : Ctx CX K Γ gv N ft gt sg n sc X) {p2 : Pos} (ha : PE X l (wpE K Γ gv a)) (hb : PE X r (wpE K Γ gv b)) : PE X (.Subscript l (.Slice (some r) none none p2) pos) (wpE K Γ gv (.slF a b)) := by
  have q := pe_slice (pos := pos) (p2 := p2) slOk ha (po_some hb) po_none
  rw [C.hK] at q
  refine PE.eqv q ?_
  funext σ H Q
  simp only [wpE, tSl, tNoPart, tPart, asI_eq]
theorem peIx (C : Ctx CX K Γ gv N ft gt sg n sc X) (ha : PE X l (wpE K Γ gv a)) (hb : PE X r (wpE K Γ gv b)) (hs : isSl r = false) : PE X (.Subscript l r pos) (wpE K Γ gv (.ix a b)) := by
  have q := pe_ix (pos := pos) ixOk ha hb (by cases r <;> first | (simp [isSl] at hs; done) | exact fun _ _ => rfl)
  rw [C.hK] at q
  exact q
theorem peLc (C : Ctx CX K Γ gv N ft gt sg n sc X) {own g : List Nat} {one : Bool} {w : W} {tg iter elt : Expr} {ifs : List Expr} {sc' : Scope} (hw : PI X tg iter (wpW K Γ gv w)) (hs : ∀ x, foldedSetIterable iter X.env x = pure x) (hb : blkC N sc sc' (ownL N own) = true)
    (hg : mG N g one sc' tg = true) (ht : ∀ {X' : Cx}, Ctx CX K Γ gv N ft gt sg n sc' X' → PTs X' ifs (wpT K Γ gv c)) (he : ∀ {X' : Cx}, Ctx CX K Γ gv N ft gt sg n sc' X' → PE X' elt (wpE K Γ gv a)) :
    PE X (.ListComp elt [⟨tg, iter, ifs, 0⟩] sc' pos) (wpE K Γ gv (.lc own g one w c a)) := by
  have ok := blkOk_by hb
  have q := pe_lc (pos := pos) (own := ownL N own) C.calm (by rw [C.hN]; exact C.nd) hw (C.blkOk ok) (fun s H D cl fp => pgG (C.blk sc' s H D cl fp ok.kind) hg) (fun s H D cl fp => ht (C.blk sc' s H D cl fp ok.kind)) (fun s H D cl fp => he (C.blk sc' s H D cl fp ok.kind)) hs
  rw [ownL_snd] at q
  exact q
theorem piRng1 (C : Ctx CX K Γ gv N ft gt sg n sc X) {tg : Expr} {p : Pos} (hg : glB sc "range" = true) (h : mE N ft gt sg n a sc l = true) (ha : PE X l (wpE K Γ gv a)) : PI X tg (.Call (.Name "range" p) [l] [] pos) (wpW K Γ gv (.rng1 a)) := by
  have q := pi_range1 (tg := tg) (p := p) (pos := pos) (C.gl hg) (C.mgB _ (by decide +kernel)) (pa_cons ha pa_nil (star_of h _ _)) (star_of h _ _)
  have e : wpW K Γ gv (.rng1 a) = iRng1 (tCons (wpE K Γ gv a) tNil) := by
    funext σ H R
    simp only [wpW, iRng1, tCons, tNil, asI_eq, and_assoc]
    congr 1; funext x H1
    simp
  rw [e]
  exact q
theorem piRng2 (C : Ctx CX K Γ gv N ft gt sg n sc X) {tg : Expr} {p : Pos} (hg : glB sc "range" = true) (h : mE N ft gt sg n a sc l = true) (h' : mE N ft gt sg n b sc r = true) (ha : PE X l (wpE K Γ gv a)) (hb : PE X r (wpE K Γ gv b)) : PI X tg (.Call (.Name "range" p) [l, r] [] pos) (wpW K Γ gv (.rng2 a b)) := by
  have q := pi_range2 (tg := tg) (p := p) (pos := pos) (C.gl hg) (C.mgB _ (by decide +kernel)) (pa_cons ha (pa_cons hb pa_nil (star_of h' _ _)) (star_of h _ _)) (by rw [star_of h, star_of h']; rfl) (star_of h' _ _)
  have e : wpW K Γ gv (.rng2 a b) = iRng2 (tCons (wpE K Γ gv a) (tCons (wpE K Γ gv b) tNil)) := by
    funext σ H R
    simp only [wpW, iRng2, tCons, tNil, asI_eq]
    congr 1; funext x H1; congr 1; funext y H2
    simp only [eq_iff_iff]
    constructor
    · rintro ⟨i, rfl, j, rfl, h⟩; exact ⟨i, j, rfl, h⟩
    · rintro ⟨i, j, e, h⟩; cases e; exact ⟨i, rfl, j, rfl, h⟩
  rw [e]
  exact q
end
end L2.IR
set_option Elab.async false
set_option linter.all false
set_option maxRecDepth 100000
set_option maxHeartbeats 4000000
namespace L2.IR
open PySem PySem.Spec PyProof.Rows
section
variable {CX : CXT} {K : PySem.W.Frag} {Γ : Nat → Sp} {gv : Nat → V} {N ft gt : List Str} {sg : Sg} {n : Nat} {sc : Scope} {X : Cx}
variable {a b c : E} {l m r : Expr} {pos : Pos}
theorem Ctx.u2 (C : Ctx CX K Γ gv N ft gt sg n sc X) : X.A.units + 2 < cLine := by have := C.units; omega
theorem peDmem (C : Ctx CX K Γ gv N ft gt sg n sc X) {o : CmpOp} {pp neg : Bool} (ho : o = bif neg then CmpOp.NotIn else CmpOp.In) (ha : PE X l (wpE K Γ gv a)) (hb : PE X r (wpE K Γ gv b)) (hm : behindInMarks o r = false) : PE X (.Compare l [o] [r] pos) (wpE K Γ gv (.dmem pp neg a b)) := by
  cases neg <;> cases pp <;> (simp only [cond] at ho; subst ho) <;> first
    | exact pe_cmpR (pos := pos) (op_dIn (𝔡 := dkT) C.u2) ha hb hm
    | exact pe_cmpR (pos := pos) (op_dIn (𝔡 := dkP) C.u2) ha hb hm
    | exact pe_cmpR (pos := pos) (op_dNotIn (𝔡 := dkT) C.u2) ha hb hm
    | exact pe_cmpR (pos := pos) (op_dNotIn (𝔡 := dkP) C.u2) ha hb hm
theorem ptDmem (C : Ctx CX K Γ gv N ft gt sg n sc X) {o : CmpOp} {pp neg : Bool} (ho : o = bif neg then CmpOp.NotIn else CmpOp.In) (ha : PE X l (wpE K Γ gv a)) (hb : PE X r (wpE K Γ gv b)) (hm : behindInMarks o r = false) : PT X (.Compare l [o] [r] pos) (wpT K Γ gv (.dmem pp neg a b)) := by
  have e : wpT K Γ gv (.dmem pp neg a b) = tTest (wpE K Γ gv (.dmem pp neg a b)) := by
    funext σ H Q
    cases pp <;> simp only [wpT, wpE, tTest, asB_eq]
  rw [e]
  cases neg <;> cases pp <;> (simp only [cond] at ho; subst ho) <;> first
    | exact pt_cmpR (pos := pos) (op_dIn (𝔡 := dkT) C.u2) ha hb hm
    | exact pt_cmpR (pos := pos) (op_dIn (𝔡 := dkP) C.u2) ha hb hm
    | exact pt_cmpR (pos := pos) (op_dNotIn (𝔡 := dkT) C.u2) ha hb hm
    | exact pt_cmpR (pos := pos) (op_dNotIn (𝔡 := dkP) C.u2) ha hb hm
theorem peDix (C : Ctx CX K Γ gv N ft gt sg n sc X) {pp : Bool} (ha : PE X l (wpE K Γ gv a)) (hb : PE X r (wpE K Γ gv b)) (hs : isSl r = false) : PE X (.Subscript l r pos) (wpE K Γ gv (.dix pp a b)) := by
  have ns : NoSl r := by cases r <;> first | (simp [isSl] at hs; done) | exact fun _ _ => rfl
  cases pp
  · exact pe_dix (𝔡 := dkT) (pos := pos) C.u2 ha hb ns
  · exact pe_dix (𝔡 := dkP) (pos := pos) C.u2 ha hb ns
theorem peB1 (C : Ctx CX K Γ gv N ft gt sg n sc X) {x : Str} {v : Value} {rr : List V → Hp → VK → Prop} {p : Pos} (hx : x ∈ biNames) (hv : bootBuiltins x = some v) (hp : plB x = true) (hty : (∃ id, v = .builtin id) ∨ ∃ T, v = .type T) (hc : CallR X v rr) (hg : glB sc x = true) (h : mE N ft gt sg n a sc l = true) (ha : PE X l (wpE K Γ gv a)) :
    PE X (.Call (.Name x p) [l] [] pos) (fun σ H Q => wpE K Γ gv a σ H fun y H1 => rr [y] H1 Q) := by
  have pl := plB_of hp
  have hpa : PA X [l] (tCons (wpE K Γ gv a) tNil) := pa_cons ha pa_nil (star_of h _ _)
  rcases hty with ⟨id, rfl⟩ | ⟨T, rfl⟩
  · exact pe_callB hc (C.gl hg) (C.mgB _ hx) hv hpa pl.2.2 pl.1 (star_of h _ _) rfl
  · exact pe_callTy hc (C.gl hg) (C.mgB _ hx) hv hpa pl.2.2 pl.1 (star_of h _ _) rfl
theorem peDlen (C : Ctx CX K Γ gv N ft gt sg n sc X) {pp : Bool} {p : Pos} (hg : glB sc "len" = true) (h : mE N ft gt sg n a sc l = true) (ha : PE X l (wpE K Γ gv a)) : PE X (.Call (.Name "len" p) [l] [] pos) (wpE K Γ gv (.dlen pp a)) := by
  cases pp
  · exact peB1 C (by decide +kernel) (show bootBuiltins "len" = some (.builtin "len") by decide +kernel) (by decide +kernel) (.inl ⟨_, rfl⟩) (cr_dlen (𝔡 := dkT)) hg h ha
  · exact peB1 C (by decide +kernel) (show bootBuiltins "len" = some (.builtin "len") by decide +kernel) (by decide +kernel) (.inl ⟨_, rfl⟩) (cr_dlen (𝔡 := dkP)) hg h ha
theorem peDlist (C : Ctx CX K Γ gv N ft gt sg n sc X) {pp : Bool} {p : Pos} (hg : glB sc "list" = true) (h : mE N ft gt sg n a sc l = true) (ha : PE X l (wpE K Γ gv a)) : PE X (.Call (.Name "list" p) [l] [] pos) (wpE K Γ gv (.dlist pp a)) := by
  cases pp
  · exact peB1 C (by decide +kernel) (show bootBuiltins "list" = some (.type "list") by decide +kernel) (by decide +kernel) (.inr ⟨_, rfl⟩) (cr_dlist (𝔡 := dkT) C.calm) hg h ha
  · exact peB1 C (by decide +kernel) (show bootBuiltins "list" = some (.type "list") by decide +kernel) (by decide +kernel) (.inr ⟨_, rfl⟩) (cr_dlist (𝔡 := dkP) C.calm) hg h ha
theorem peMint (C : Ctx CX K Γ gv N ft gt sg n sc X) {p : Pos} (hg : glB sc "min" = true) (h : mE N ft gt sg n a sc l = true) (ha : PE X l (wpE K Γ gv a)) : PE X (.Call (.Name "min" p) [l] [] pos) (wpE K Γ gv (.mint a)) := by
  have q := cr_minT (X := X) C.calm (by have := C.u2; omega)
  rw [C.hK] at q
  exact peB1 C (by decide +kernel) (show bootBuiltins "min" = some (.builtin "min") by decide +kernel) (by decide +kernel) (.inl ⟨_, rfl⟩) q hg h ha
theorem peZipl (C : Ctx CX K Γ gv N ft gt sg n sc X) {p p2 pos2 : Pos} (hg : glB sc "list" = true) (hg2 : glB sc "zip" = true) (h1 : mE N ft gt sg n a sc l = true) (h2 : mE N ft gt sg n b sc r = true) (ha : PE X l (wpE K Γ gv a)) (hb : PE X r (wpE K Γ gv b)) :
    PE X (.Call (.Name "list" p) [.Call (.Name "zip" p2) [l, r] [] pos2] [] pos) (wpE K Γ gv (.zipl a b)) := by
  have q := pe_zipl (pos := pos) (pos2 := pos2) (p := p) (p2 := p2) C.calm (C.gl hg) (C.mgB _ (by decide +kernel)) (C.gl hg2) (C.mgB _ (by decide +kernel)) ha hb (fun es => star_of h1 es _) (fun es => star_of h2 es _)
  rw [C.hK] at q
  exact q
theorem peExt (C : Ctx CX K Γ gv N ft gt sg n sc X) {i : Nat} {y : Str} {py ap cp : Pos} (h1 : N[i]? = some y) (h2 : visB sc y = true) (h3 : plB y = true) (hl : (ap.endLine == cp.line) = true)
    (h : mE N ft gt sg n b sc r = true) (hb : PE X r (wpE K Γ gv b)) : PE X (.Call (.Attribute (.Name y py) "extend" ap) [r] [] cp) (wpE K Γ gv (.ext i b)) := by
  have q := pe_bm PySem.F.plainAttrs_list PySem.F.slot_list_extend PySem.F.type_list_extend (mt_extend (X := X)) (peVar C (pos := py) h1 h2 h3) (pa_cons hb pa_nil (star_of h _ _)) rfl (star1 h _ _) hl (star_of h _ _) rfl
  intro pins s σ H Q I hw
  refine q pins s σ H Q I ?_
  simp only [wpE, atS_eq] at hw
  obtain ⟨v, hv, ⟨l, xs, rfl, hl⟩, hw⟩ := hw
  refine ⟨_, hv, .inl ⟨rfl, xs, SqL.of hl⟩, ?_⟩
  show wpE K Γ gv b σ H fun y' H2 => rExtend (V.ref l) [y'] H2 Q
  have e : (fun (y' : V) (H2 : Hp) => rExtend (V.ref l) [y'] H2 Q) = fun y' H2 => extW (V.ref l) y' H2 Q := by
    funext y' H2
    simp [rExtend, extW]
  rw [e]
  exact hw
theorem peLc2 (C : Ctx CX K Γ gv N ft gt sg n sc X) {own vs1 g g1 : List Nat} {one one1 : Bool} {w w1 : W} {c1 : E} {tg iter tg1 iter1 elt : Expr} {ifs ifs1 : List Expr} {sc' : Scope} (hw : PI X tg iter (wpW K Γ gv w)) (hs : ∀ x, foldedSetIterable iter X.env x = pure x) (hb : blkC N sc sc' (ownL N own) = true)
    (hg : mG N g one sc' tg = true) (ht : ∀ {X' : Cx}, Ctx CX K Γ gv N ft gt sg n sc' X' → PTs X' ifs (wpT K Γ gv c)) (hw1 : ∀ {X' : Cx}, Ctx CX K Γ gv N ft gt sg n sc' X' → PI X' tg1 iter1 (wpW K Γ gv w1)) (hs1 : ∀ env x, foldedSetIterable iter1 env x = pure x)
    (hg1 : mG N g1 one1 sc' tg1 = true) (ht1 : ∀ {X' : Cx}, Ctx CX K Γ gv N ft gt sg n sc' X' → PTs X' ifs1 (wpT K Γ gv c1)) (hv : ∀ i ∈ vs1, i ∈ own) (he : ∀ {X' : Cx}, Ctx CX K Γ gv N ft gt sg n sc' X' → PE X' elt (wpE K Γ gv a)) :
    PE X (.ListComp elt [⟨tg, iter, ifs, 0⟩, ⟨tg1, iter1, ifs1, 0⟩] sc' pos) (wpE K Γ gv (.lc2 own vs1 g one w c g1 one1 w1 c1 a)) := by
  have ok := blkOk_by hb
  have q := pe_lc2 (pos := pos) (own := ownL N own) (vs1 := vs1) C.calm (by rw [C.hN]; exact C.nd) hw (C.blkOk ok) (by rw [ownL_snd]; exact hv) (fun s H D cl fp => pgG (C.blk sc' s H D cl fp ok.kind) hg) (fun s H D cl fp => ht (C.blk sc' s H D cl fp ok.kind))
    (fun s H D cl fp => hw1 (C.blk sc' s H D cl fp ok.kind)) (fun s H D cl fp => pgG (C.blk sc' s H D cl fp ok.kind) hg1) (fun s H D cl fp => ht1 (C.blk sc' s H D cl fp ok.kind)) (fun s H D cl fp => he (C.blk sc' s H D cl fp ok.kind)) hs hs1
  rw [ownL_snd] at q
  exact q
theorem peDc (C : Ctx CX K Γ gv N ft gt sg n sc X) {pp : Bool} {own g : List Nat} {one : Bool} {w : W} {tg iter kx vx : Expr} {sc' : Scope} (hw : PI X tg iter (wpW K Γ gv w)) (hs : ∀ x, foldedSetIterable iter X.env x = pure x) (hb : blkC N sc sc' (ownL N own) = true)
    (hg : mG N g one sc' tg = true) (hk : ∀ {X' : Cx}, Ctx CX K Γ gv N ft gt sg n sc' X' → PE X' kx (wpE K Γ gv a)) (hv : ∀ {X' : Cx}, Ctx CX K Γ gv N ft gt sg n sc' X' → PE X' vx (wpE K Γ gv b)) :
    PE X (.DictComp kx vx [⟨tg, iter, [], 0⟩] sc' pos) (wpE K Γ gv (.dc pp own g one w a b)) := by
  have ok := blkOk_by hb
  cases pp
  · have q := pe_dc (𝔡 := dkT) (pos := pos) (own := ownL N own) C.calm (by rw [C.hN]; exact C.nd) hw (C.blkOk ok) (fun s H D cl fp => pgG (C.blk sc' s H D cl fp ok.kind) hg) (fun s H D cl fp => pts_nil) (fun s H D cl fp => hk (C.blk sc' s H D cl fp ok.kind)) (fun s H D cl fp => hv (C.blk sc' s H D cl fp ok.kind)) C.u2 hs
    rw [ownL_snd] at q
    exact q
  · have q := pe_dc (𝔡 := dkP) (pos := pos) (own := ownL N own) C.calm (by rw [C.hN]; exact C.nd) hw (C.blkOk ok) (fun s H D cl fp => pgG (C.blk sc' s H D cl fp ok.kind) hg) (fun s H D cl fp => pts_nil) (fun s H D cl fp => hk (C.blk sc' s H D cl fp ok.kind)) (fun s H D cl fp => hv (C.blk sc' s H D cl fp ok.kind)) C.u2 hs
    rw [ownL_snd] at q
    exact q
theorem peMk (C : Ctx CX K Γ gv N ft gt sg n sc X) {k : Nat} {x : Str} {p : Pos} {ls : List Expr} {is : Es} (hk : k + 1 < n) (hi : (x, k) ∈ sg.ini) (hg : glB sc x = true) (hp : plB x = true)
    (h : mEs N ft gt sg n (.cons a is) sc (l :: ls) = true) (ha : PA X (l :: ls) (wpEs K Γ gv (.cons a is))) : PE X (.Call (.Name x p) (l :: ls) [] pos) (wpE K Γ gv (.mk x k (.cons a is))) := by
  obtain ⟨hc, fa, fd, ps, F, hb, M⟩ := C.ins k x (by omega) hi
  have cf := C.sgo.cl x hc
  simp only [mEs, Bool.and_eq_true] at h
  have M' : Mk X.K (clsA K x) fa := by rw [C.hK]; exact M
  refine PE.eqv (pe_make M' F (C.room.mono (by omega)) (C.gl hg) cf.mgx hb .nil C.pas ha (plB_of hp).1 (star_of h.1 _ _) (nostar h.2 _ _)) ?_
  funext σ H Q
  simp only [wpE, tMake, List.append_nil]
theorem peMk0 (C : Ctx CX K Γ gv N ft gt sg n sc X) {x : Str} {p : Pos} (hi : x ∈ sg.in0) (hg : glB sc x = true) (hp : plB x = true) : PE X (.Call (.Name x p) [] [] pos) (wpE K Γ gv (.mk0 x)) := by
  obtain ⟨hc, hin⟩ := C.sgo.in0 x hi
  have cf := C.sgo.cl x hc
  have M : Mk0 X.K (clsA K x) := by rw [C.hK]; exact ⟨cf.mkm, hin, cf.kp⟩
  exact pe_mk0 M (C.gl hg) cf.mgx (plB_of hp).1
theorem abase {f : Str} (h : noSup l = true) (env : Env) : attributeBase l f env (eval l env) = eval l env := by
  unfold attributeBase
  cases l with
  | Call g as ks p =>
    cases g with
    | Name id q =>
      cases as with
      | nil =>
        cases ks with
        | nil =>
          have h : (id != ("super" : Str)) = true := h
          simp only [h, Bool.true_or, if_true]
        | cons _ _ => rfl
      | cons _ _ => rfl
    | _ => rfl
  | _ => rfl
theorem peFld (C : Ctx CX K Γ gv N ft gt sg n sc X) {f : Str} {ys : List Str} (hy : (ys.all fun y => decide ((y, f) ∈ sg.fl)) = true) (hn : noSup l = true) (ha : PE X l (wpE K Γ gv a)) : PE X (.Attribute l f pos) (wpE K Γ gv (.fld a f ys)) := by
  intro pins s σ H Q I h
  refine attr_of (abase hn _) (thn (ha pins s σ H _ I h) fun u s1 ⟨x, H1, I1, rx, p, y, dx, fs, ex, ea, my, v, lv, q⟩ => ?_)
  subst ex
  obtain rfl : u = Value.ref p := rx
  have hfl := List.all_eq_true.mp hy y my
  simp only [decide_eq_true_eq] at hfl
  obtain ⟨hc, na⟩ := C.sgo.fl y f hfl
  have cf := C.sgo.cl y hc
  have hK := C.hK
  subst hK
  exact getattr_ok I1 ea cf.cls na lv fun u' s2 I2 ru => ⟨v, H1, I2, ru, q⟩
theorem methEq {m : Str} {ap cp : Pos} {ls : List Expr} {env : Env} (hn : noSup l = true) (hst : (backTo cp (starEach ls env)).any (·.1) = false) (hlen : ls.length < 30) (hl : (ap.endLine == cp.line) = true) :
    eval (.Call (.Attribute l m ap) ls [] cp) env = (do
      let ov ← eval l env
      standAt ap.atName
      let (f, first) ← holding [ov] (getMethod ov m (do return (← importBound l env).getD true))
      callWith cp f first (backTo cp (starEach ls env)) (backToKw cp (keywordEach [] env))) := by
  show (do
    let ov ← attributeBase l m env (eval l env)
    standAt ap.atName
    methodCall l m ap cp env ov (ls.length + ([] : List Keyword).length) (backTo cp (starEach ls env)) (backToKw cp (keywordEach [] env))) = _
  have hf : methodCallForm (ls.length + ([] : List Keyword).length) (backTo cp (starEach ls env)) (backToKw cp (keywordEach [] env)) = true := by
    unfold methodCallForm
    have h1 : (backTo cp (starEach ls env)).all (fun x => !x.1) = true := by
      rw [List.all_eq_true]
      intro x hx
      have := List.any_eq_false.mp hst x hx
      simpa using this
    have h2 : backToKw cp (keywordEach [] env) = [] := rfl
    rw [h1, h2]
    simp
    omega
  rw [abase hn]
  unfold methodCall calleeOf methodCallPos
  simp only [hf, hl, Bool.not_true, Bool.false_or, if_true, pure_bind]
theorem peMeth (C : Ctx CX K Γ gv N ft gt sg n sc X) {m : Str} {tab : List (Str × Nat)} {ap cp : Pos} {rs : List Expr} {is : Es} (ht : (tab.all fun t => decide (t.2 < n) && decide (sg.mt[t.2]? = some (t.1, m)) && decide (t.1 ∈ sg.cl)) = true) (h : mEs N ft gt sg n (.cons b is) sc (r :: rs) = true) (hl : (ap.endLine == cp.line) = true) (hn : noSup l = true) (hlen : rs.length < 20)
    (ha : PE X l (wpE K Γ gv a)) (hr : PA X (r :: rs) (wpEs K Γ gv (.cons b is))) : PE X (.Call (.Attribute l m ap) (r :: rs) [] cp) (wpE K Γ gv (.meth a m tab (.cons b is))) := by
  intro pins s σ H Q I hw
  have hns := nostar h cp X.env
  simp only [mEs, Bool.and_eq_true] at h
  have hw : wpE K Γ gv a σ H fun x H1 => insW K x H1 (tab.map (·.1)) fun _ _ fs y => fs.lookup m = none ∧ wpEs K Γ gv (.cons b is) σ H1 fun vs H2 => ∃ k, (y, k) ∈ tab ∧ Γ k (x :: vs) H2 Q E0 := by
    simpa only [wpE] using hw
  refine PySem.W.methodCall_KW (thn (ha pins s σ H _ I hw) fun u s1 ⟨x, H1, I1, rx, p, y, dx, fs, ex, ea, my, lv, q⟩ => ?_) (methEq hn hns (by simp; omega) hl)
  subst ex
  obtain rfl : u = Value.ref p := rx
  obtain ⟨⟨y', k0⟩, mt0, rfl⟩ := List.mem_map.mp my
  have h0 := List.all_eq_true.mp ht _ mt0
  simp only [Bool.and_eq_true, decide_eq_true_eq] at h0
  have cf := C.sgo.cl _ h0.2
  have hK := C.hK
  subst hK
  obtain ⟨fa, fd, ps, F, hb, M⟩ := C.mts k0 _ m h0.1.1 h0.1.2 h0.2
  refine getmeth_ok I1 ea cf.cls M lv ?_
  refine PySem.W.callWith_K (first := [.ref p]) (h₀ := X.base) I.ok.mod.kin M.kp (thn (hr cp pins s1 σ H1 _ I1 q) fun us s2 ⟨vs, H2, I2, r2, k, mk, q2⟩ => ⟨I2.kIn, ?_⟩) (star_of h.1 _ _) (nostar h.2 _ _)
  have hk := List.all_eq_true.mp ht _ mk
  simp only [Bool.and_eq_true, decide_eq_true_eq] at hk
  obtain ⟨fa', fd', ps', F', hb', M'⟩ := C.mts k _ m hk.1.1 hk.1.2 hk.2
  have e : fa' = fa := by
    have z := M'.at_
    rw [M.at_] at z
    cases z
    rfl
  subst e
  have q2 : Γ k (.ref p :: (vs ++ [])) H2 Q E0 := by rw [List.append_nil]; exact q2
  exact run_fn (us := .ref p :: us) (vs := .ref p :: vs) F' (C.room.mono (by omega)) hb' .nil C.pas I2 (.cons rfl r2) q2
theorem kitF {K : PySem.W.Frag} {mg : Str → Option Value} {x : Str} (c : ClF K mg x) (t : Ty) : PySem.W.kitOne K (.type t.nm) (.ref (clsA K x)) = some false := c.ty t
theorem iscOk (C : Ctx CX K Γ gv N ft gt sg n sc X) {x : Str} {tab : List (Str × Bool)} (hx : x ∈ sg.cl) (ht : (tab.all fun t => decide ((t.1, x, t.2) ∈ sg.cs)) = true) : CallR X (.builtin "isinstance") (fun xs H Q => ∃ y, xs = [y, .ref (clsA K x)] ∧ iscW K tab y H Q) := by
  intro pins s σ H xs us Q I r h
  obtain ⟨y, rfl, h⟩ := h
  obtain ⟨u, u2, rfl, r1, r2⟩ := vals2 r
  cases (show u2 = Value.ref (clsA K x) from r2)
  have cf := C.sgo.cl x hx
  have hK := C.hK
  subst hK
  cases y with
  | int i => exact isinst_ok I r1 (.int i) (kitF cf .int) fun tk => ⟨.bl _, H, I.tok _, rfl, h⟩
  | bl i => exact isinst_ok I r1 (.bl i) (kitF cf .bool) fun tk => ⟨.bl _, H, I.tok _, rfl, h⟩
  | str i => exact isinst_ok I r1 (.str i) (kitF cf .str) fun tk => ⟨.bl _, H, I.tok _, rfl, h⟩
  | non => exact isinst_ok I r1 .non (kitF cf .non) fun tk => ⟨.bl _, H, I.tok _, rfl, h⟩
  | ref a =>
    rcases h with ⟨z, dx, fs, b, e, mb, q⟩ | ⟨t, ht, q⟩
    · have hz := List.all_eq_true.mp ht _ mb
      simp only [decide_eq_true_eq] at hz
      obtain ⟨hc, hk⟩ := C.sgo.cs _ _ _ hz
      have cz := C.sgo.cl _ hc
      exact isinst_ok I r1 (.ins e cz.cls cz.ha cz.hn cz.htk cz.hm) hk fun tk => ⟨.bl _, H, I.tok _, rfl, q⟩
    · exact isinst_ok I r1 ht (kitF cf t) fun tk => ⟨.bl _, H, I.tok _, rfl, q⟩
  | _ => exact h.elim
theorem peIsc (C : Ctx CX K Γ gv N ft gt sg n sc X) {x : Str} {tab : List (Str × Bool)} {p q : Pos} (hg : glB sc "isinstance" = true) (hx : x ∈ sg.cl) (hgx : glB sc x = true) (hpx : plB x = true) (ht : (tab.all fun t => decide ((t.1, x, t.2) ∈ sg.cs)) = true)
    (h : mE N ft gt sg n a sc l = true) (ha : PE X l (wpE K Γ gv a)) : PE X (.Call (.Name "isinstance" p) [l, .Name x q] [] pos) (wpE K Γ gv (.isc a x tab)) := by
  have pl := plB_of hpx
  have cf := C.sgo.cl x hx
  have hty : PE X (.Name x q) (tC (.ref (clsA K x))) := pe_glob (C.gl hgx) cf.mgx rfl pl.1
  have hPA : PA X [l, .Name x q] (tCons (wpE K Γ gv a) (tCons (tC (.ref (clsA K x))) tNil)) := pa_cons ha (pa_cons hty pa_nil) (star_of h _ _)
  refine PE.eqv (pe_callB (iscOk C hx ht) (C.gl hg) (C.mgB _ (by decide +kernel)) (show bootBuiltins "isinstance" = some (.builtin "isinstance") by decide +kernel) hPA (by decide +kernel) (by decide +kernel) (star_of h _ _) rfl) ?_
  funext σ H Q
  simp only [wpE, tCB, tCons, tC, tNil]
  congr 1
  funext x H1
  simp
theorem piEnum (C : Ctx CX K Γ gv N ft gt sg n sc X) {elts : List Expr} {kk : Nat} {tpos p : Pos} (hg : glB sc "enumerate" = true) (h : mE N ft gt sg n a sc l = true) (ha : PE X l (wpE K Γ gv a)) : PI X (.Tuple elts kk tpos) (.Call (.Name "enumerate" p) [l] [] pos) (wpW K Γ gv (.enum a)) := by
  have q := pi_enum (elts := elts) (kk := kk) (tpos := tpos) (p := p) (pos := pos) (C.gl hg) (C.mgB _ (by decide +kernel)) (pa_cons ha pa_nil (star_of h _ _)) (star_of h _ _)
  rw [C.hK] at q
  have e : wpW K Γ gv (.enum a) = iEnum K (tCons (wpE K Γ gv a) tNil) := by
    funext σ H R
    simp only [wpW, iEnum, tCons, tNil]
    congr 1; funext x H1
    simp
  rw [e]
  exact q
theorem piZip (C : Ctx CX K Γ gv N ft gt sg n sc X) {elts : List Expr} {kk : Nat} {tpos p : Pos} (hg : glB sc "zip" = true) (h : mE N ft gt sg n a sc l = true) (h' : mE N ft gt sg n b sc r = true) (ha : PE X l (wpE K Γ gv a)) (hb : PE X r (wpE K Γ gv b)) : PI X (.Tuple elts kk tpos) (.Call (.Name "zip" p) [l, r] [] pos) (wpW K Γ gv (.zip a b)) := by
  have q := pi_zip (elts := elts) (kk := kk) (tpos := tpos) (p := p) (pos := pos) (C.gl hg) (C.mgB _ (by decide +kernel)) (pa_cons ha (pa_cons hb pa_nil (star_of h' _ _)) (star_of h _ _)) (star_of h _ _) (by rw [star_of h']; rfl)
  rw [C.hK] at q
  have e : wpW K Γ gv (.zip a b) = iZip K (tCons (wpE K Γ gv a) (tCons (wpE K Γ gv b) tNil)) := by
    funext σ H R
    simp only [wpW, iZip, tCons, tNil]
    congr 1; funext x H1; congr 1; funext y H2
    simp only [eq_iff_iff]
    constructor
    · rintro ⟨p, q, rfl, rfl, ⟨xs, h1⟩, ⟨ys, h2⟩, h⟩; exact ⟨p, q, xs, ys, rfl, h1, h2, h⟩
    · rintro ⟨p, q, xs, ys, e, h1, h2, h⟩; cases e; exact ⟨p, q, rfl, rfl, ⟨xs, h1⟩, ⟨ys, h2⟩, h⟩
  rw [e]
  exact q
theorem piRevr (C : Ctx CX K Γ gv N ft gt sg n sc X) {tg : Expr} {p p2 pos2 : Pos} (hg : glB sc "reversed" = true) (hg2 : glB sc "range" = true) (h : mE N ft gt sg n a sc l = true) (ha : PE X l (wpE K Γ gv a)) : PI X tg (.Call (.Name "reversed" p) [.Call (.Name "range" p2) [l] [] pos2] [] pos) (wpW K Γ gv (.revr a)) := by
  have q := pi_revr (tg := tg) (p := p) (p2 := p2) (pos := pos) (pos2 := pos2) (C.gl hg) (C.mgB _ (by decide +kernel)) (C.gl hg2) (C.mgB _ (by decide +kernel)) ha (star_of h _ _)
  have e : wpW K Γ gv (.revr a) = iRevR (wpE K Γ gv a) := by
    funext σ H R
    simp only [wpW, iRevR, asI_eq]
    congr 1; funext x H1
    simp only [eq_iff_iff]
    constructor
    · rintro ⟨i, rfl, n, rfl, h⟩; exact ⟨n, rfl, h⟩
    · rintro ⟨n, rfl, h⟩; exact ⟨n, rfl, n, rfl, h⟩
  rw [e]
  exact q
end
end L2.IR
set_option Elab.async false
set_option linter.all false
set_option maxRecDepth 100000
set_option maxHeartbeats 4000000
namespace L2.IR
open PySem PySem.Spec PyProof.Rows
section
variable {CX : CXT} {K : PySem.W.Frag} {Γ : Nat → Sp} {gv : Nat → V} {N ft gt : List Str} {sg : Sg} {n : Nat} {sc : Scope} {X : Cx}
variable {a b c : E} {l m r r1 r2 : Expr} {pos : Pos}
theorem peDnew (pp : Bool) : PE X (.Dict [] [] pos) (wpE K Γ gv (.dnew pp)) := by
  cases pp
  · exact pe_ddnew (𝔡 := dkT)
  · exact pe_ddnew (𝔡 := dkP)
theorem m2_of {nm : Str} {ap cp : Pos} (h1 : mE N ft gt sg n b sc r1 = true) (h2 : mE N ft gt sg n c sc r2 = true) (hl : (ap.endLine == cp.line) = true) (hn : noSup l = true) : M2 X l nm ap r1 r2 cp := by
  have e : starEach [r1, r2] X.env = [(false, eval r1 X.env), (false, eval r2 X.env)] := by rw [star_of h1, star_of h2]; rfl
  refine ⟨abase hn _, ?_, hl, ?_⟩
  · rw [e]; rfl
  · rw [e]; rfl
theorem peDget (C : Ctx CX K Γ gv N ft gt sg n sc X) {pp : Bool} {ap cp : Pos} (h1 : mE N ft gt sg n b sc r1 = true) (h2 : mE N ft gt sg n c sc r2 = true) (hl : (ap.endLine == cp.line) = true) (hn : noSup l = true) (ha : PE X l (wpE K Γ gv a)) (hb : PE X r1 (wpE K Γ gv b)) (hc : PE X r2 (wpE K Γ gv c)) :
    PE X (.Call (.Attribute l "get" ap) [r1, r2] [] cp) (wpE K Γ gv (.dget pp a b c)) := by
  cases pp
  · exact pe_ddget2 (𝔡 := dkT) C.u2 ha hb hc (m2_of h1 h2 hl hn)
  · exact pe_ddget2 (𝔡 := dkP) C.u2 ha hb hc (m2_of h1 h2 hl hn)
theorem peSdef (C : Ctx CX K Γ gv N ft gt sg n sc X) {pp : Bool} {ap cp : Pos} (h1 : mE N ft gt sg n b sc r1 = true) (h2 : mE N ft gt sg n c sc r2 = true) (hl : (ap.endLine == cp.line) = true) (hn : noSup l = true) (ha : PE X l (wpE K Γ gv a)) (hb : PE X r1 (wpE K Γ gv b)) (hc : PE X r2 (wpE K Γ gv c)) :
    PE X (.Call (.Attribute l "setdefault" ap) [r1, r2] [] cp) (wpE K Γ gv (.sdef pp a b c)) := by
  cases pp
  · exact pe_ddset (𝔡 := dkT) C.u2 ha hb hc (m2_of h1 h2 hl hn)
  · exact pe_ddset (𝔡 := dkP) C.u2 ha hb hc (m2_of h1 h2 hl hn)
theorem peAppE (C : Ctx CX K Γ gv N ft gt sg n sc X) {ap cp : Pos} (h : mE N ft gt sg n b sc r = true) (hl : (ap.endLine == cp.line) = true) (hn : noSup l = true) (ha : PE X l (wpE K Γ gv a)) (hb : PE X r (wpE K Γ gv b)) : PE X (.Call (.Attribute l "append" ap) [r] [] cp) (wpE K Γ gv (.appE a b)) := by
  have q := pe_bm PySem.F.plainAttrs_list PySem.F.slot_list_append PySem.F.type_list_append (mt_append (X := X)) ha (pa_cons hb pa_nil (star_of h _ _)) (abase hn _) (star1 h _ _) hl (star_of h _ _) rfl
  rw [C.hK] at q
  refine PE.eqv q ?_
  funext σ H Q
  simp only [wpE, tBM, tCons, tNil]
theorem peCntB (C : Ctx CX K Γ gv N ft gt sg n sc X) {ap cp : Pos} (h : mE N ft gt sg n b sc r = true) (hl : (ap.endLine == cp.line) = true) (hn : noSup l = true) (ha : PE X l (wpE K Γ gv a)) (hb : PE X r (wpE K Γ gv b)) : PE X (.Call (.Attribute l "count" ap) [r] [] cp) (wpE K Γ gv (.cntB a b)) := by
  have q := pe_bm PySem.F.plainAttrs_list PySem.F.slot_list_count PySem.F.type_list_count (mt_countB (X := X)) ha (pa_cons hb pa_nil (star_of h _ _)) (abase hn _) (star1 h _ _) hl (star_of h _ _) rfl
  rw [C.hK] at q
  refine PE.eqv q ?_
  funext σ H Q
  simp only [wpE, tBM, tCons, tNil]
theorem peLock (ha : PE X l (wpE K Γ gv a)) : PE X l (wpE K Γ gv (.lock a)) := pe_lock ha
theorem peSortT (C : Ctx CX K Γ gv N ft gt sg n sc X) {p : Pos} (hg : glB sc "sorted" = true) (h : mE N ft gt sg n a sc l = true) (ha : PE X l (wpE K Γ gv a)) : PE X (.Call (.Name "sorted" p) [l] [] pos) (wpE K Γ gv (.sortT a)) := by
  have q := cr_sortedT (X := X) C.units
  rw [C.hK] at q
  exact peB1 C (by decide +kernel) (show bootBuiltins "sorted" = some (.builtin "sorted") by decide +kernel) (by decide +kernel) (.inl ⟨_, rfl⟩) q hg h ha
theorem peLrange (C : Ctx CX K Γ gv N ft gt sg n sc X) {p p2 pos2 : Pos} (hg : glB sc "list" = true) (hg2 : glB sc "range" = true) (h1 : mE N ft gt sg n a sc l = true) (ha : PE X l (wpE K Γ gv a)) :
    PE X (.Call (.Name "list" p) [.Call (.Name "range" p2) [l] [] pos2] [] pos) (wpE K Γ gv (.lrange a)) :=
  pe_lrange (pos := pos) (pos2 := pos2) (p := p) (p2 := p2) C.calm (C.gl hg) (C.mgB _ (by decide +kernel)) (C.gl hg2) (C.mgB _ (by decide +kernel)) ha (star_of h1 _ _)
theorem peInL (C : Ctx CX K Γ gv N ft gt sg n sc X) {o : CmpOp} {neg : Bool} (ho : o = bif neg then CmpOp.NotIn else CmpOp.In) (ha : PE X l (wpE K Γ gv a)) (hb : PE X r (wpE K Γ gv b)) (hm : behindInMarks o r = false) : PE X (.Compare l [o] [r] pos) (wpE K Γ gv (.inL neg a b)) := by
  have hu : X.A.units + 64 < cLine := C.units
  cases neg <;> (simp only [cond] at ho; subst ho)
  · have q := pe_cmpR (pos := pos) (op_inL hu) ha hb hm
    rw [C.hK] at q
    exact q
  · have q := pe_cmpR (pos := pos) (op_notInL hu) ha hb hm
    rw [C.hK] at q
    exact q
theorem ptInL (C : Ctx CX K Γ gv N ft gt sg n sc X) {o : CmpOp} {neg : Bool} (ho : o = bif neg then CmpOp.NotIn else CmpOp.In) (ha : PE X l (wpE K Γ gv a)) (hb : PE X r (wpE K Γ gv b)) (hm : behindInMarks o r = false) : PT X (.Compare l [o] [r] pos) (wpT K Γ gv (.inL neg a b)) := by
  have hu : X.A.units + 64 < cLine := C.units
  have e : wpT K Γ gv (.inL neg a b) = tTest (wpE K Γ gv (.inL neg a b)) := by
    funext σ H Q
    simp only [wpT, wpE, tTest, asB_eq]
  rw [e]
  cases neg <;> (simp only [cond] at ho; subst ho)
  · have q := pt_cmpR (pos := pos) (op_inL hu) ha hb hm
    rw [C.hK] at q
    exact q
  · have q := pt_cmpR (pos := pos) (op_notInL hu) ha hb hm
    rw [C.hK] at q
    exact q
theorem piDict {pp : Bool} {tg : Expr} (ha : PE X l (wpE K Γ gv a)) : PI X tg l (wpW K Γ gv (.dict pp a)) := by
  cases pp
  · exact pi_keysD (𝔡 := dkT) ha
  · exact pi_keysD (𝔡 := dkP) ha
end
end L2.IR
set_option Elab.async false
set_option linter.all false
set_option maxRecDepth 100000
set_option maxHeartbeats 4000000
namespace L2.IR
open PySem PySem.Spec PyProof.Rows
section
variable {CX : CXT} {K : PySem.W.Frag} {Γ : Nat → Sp} {gv : Nat → V} {N ft gt : List Str} {sg : Sg} {n : Nat}
theorem yes_of {c : E} (h : isYes c = true) : c = .bl true := by
  unfold isYes at h
  split at h
  · rfl
  · cases h
mutual
theorem sE : ∀ (ir : E) {sc : Scope} {X : Cx} (C : Ctx CX K Γ gv N ft gt sg n sc X) (e : Expr), mE N ft gt sg n ir sc e = true → PE X e (wpE K Γ gv ir)
  | .var i, sc, X, C, e, h => by
    cases e <;> (simp only [mE, Bool.and_eq_true, decide_eq_true_eq, Bool.false_eq_true] at h)
    refine PE.eqv (peVar C h.1.1 h.1.2 h.2) ?_
    funext σ H Q
    simp only [wpE, tVar, atS_eq]
  | .int k, sc, X, C, e, h => by
    cases e with
    | Constant v k p =>
      cases v <;> (simp only [mE, decide_eq_true_eq, Bool.false_eq_true] at h)
      subst h
      exact pe_int
    | _ => exact (Bool.false_ne_true h).elim
  | .bl k, sc, X, C, e, h => by
    cases e with
    | Constant v k p =>
      cases v <;> (simp only [mE, decide_eq_true_eq, Bool.false_eq_true] at h)
      subst h
      exact pe_bl
    | _ => exact (Bool.false_ne_true h).elim
  | .non, sc, X, C, e, h => by
    cases e with
    | Constant v k p =>
      cases v <;> (simp only [mE, decide_eq_true_eq, Bool.false_eq_true] at h)
      exact pe_non
    | _ => exact (Bool.false_ne_true h).elim
  | .str k, sc, X, C, e, h => by
    cases e with
    | Constant v k p =>
      cases v <;> (simp only [mE, decide_eq_true_eq, Bool.false_eq_true] at h)
      subst h
      exact pe_str
    | _ => exact (Bool.false_ne_true h).elim
  | .glob k, sc, X, C, e, h => by
    cases e <;> (simp only [mE, Bool.and_eq_true, decide_eq_true_eq, Bool.false_eq_true] at h)
    obtain ⟨u, hm, r⟩ := C.gvs _ _ h.1.1
    exact pe_glob (C.gl h.1.2) hm r (plB_of h.2).1
  | .op o a b, sc, X, C, e, h => by
    cases e <;> (simp only [mE, Bool.and_eq_true, decide_eq_true_eq, Bool.false_eq_true] at h)
    obtain ⟨⟨rfl, h1⟩, h2⟩ := h
    exact pe_op (opOk o) (sE a C _ h1) (sE b C _ h2)
  | .neg a, sc, X, C, e, h => by
    cases e with
    | UnaryOp op l p =>
      cases op <;> (simp only [mE, Bool.false_eq_true] at h)
      exact peNeg (sE a C _ h)
    | _ => exact (Bool.false_ne_true h).elim
  | .cmp o a b, sc, X, C, e, h => by
    cases e with
    | Compare l ops rs p =>
      match ops, rs, h with
      | [o'], [r], h =>
        simp only [mE, Bool.and_eq_true, decide_eq_true_eq, Bool.not_eq_true'] at h
        obtain ⟨⟨⟨rfl, h1⟩, h2⟩, h3⟩ := h
        exact peCmp C (sE a C _ h1) (sE b C _ h2) h3
    | _ => exact (Bool.false_ne_true h).elim
  | .chain o q a b c, sc, X, C, e, h => by
    cases e with
    | Compare l ops rs p =>
      match ops, rs, h with
      | [o', q'], [m, r], h =>
        simp only [mE, Bool.and_eq_true, decide_eq_true_eq, Bool.not_eq_true'] at h
        obtain ⟨⟨⟨⟨⟨rfl, rfl⟩, h1⟩, h2⟩, h3⟩, h4⟩ := h
        exact peChain C (sE a C _ h1) (sE b C _ h2) (sE c C _ h3) h4
    | _ => exact (Bool.false_ne_true h).elim
  | .and a b, sc, X, C, e, h => by
    cases e with
    | BoolOp o vs p =>
      match o, vs, h with
      | .And, [l, m], h =>
        simp only [mE, Bool.and_eq_true] at h
        exact peAnd (sE a C _ h.1) (pe_one (sE b C _ h.2))
      | .And, l :: m :: m' :: rest, h =>
        simp only [mE, Bool.and_eq_true] at h
        exact peAnd (sE a C _ h.1) (sE b C _ h.2)
    | _ => exact (Bool.false_ne_true h).elim
  | .or a b, sc, X, C, e, h => by
    cases e with
    | BoolOp o vs p =>
      match o, vs, h with
      | .Or, [l, m], h =>
        simp only [mE, Bool.and_eq_true] at h
        exact peOr (sE a C _ h.1) (pe_one (sE b C _ h.2))
      | .Or, l :: m :: m' :: rest, h =>
        simp only [mE, Bool.and_eq_true] at h
        exact peOr (sE a C _ h.1) (sE b C _ h.2)
    | _ => exact (Bool.false_ne_true h).elim
  | .not a, sc, X, C, e, h => by
    cases e with
    | UnaryOp op l p =>
      cases op <;> (simp only [mE, Bool.false_eq_true] at h)
      exact peNot (sE a C _ h)
    | _ => exact (Bool.false_ne_true h).elim
  | .ife c a b, sc, X, C, e, h => by
    cases e <;> (simp only [mE, Bool.and_eq_true, Bool.false_eq_true] at h)
    exact pe_ifExp (sT c C _ h.1.1) (sE a C _ h.1.2) (sE b C _ h.2)
  | .tup es, sc, X, C, e, h => by
    cases e <;> (simp only [mE, Bool.false_eq_true] at h)
    exact pe_tup (sEs es C _ h)
  | .lst es, sc, X, C, e, h => by
    cases e <;> (simp only [mE, Bool.false_eq_true] at h)
    exact pe_lst (sEs es C _ h)
  | .ix a b, sc, X, C, e, h => by
    cases e <;> (simp only [mE, Bool.and_eq_true, Bool.not_eq_true', Bool.false_eq_true] at h)
    exact peIx C (sE a C _ h.1.1) (sE b C _ h.1.2) h.2
  | .slT a b, sc, X, C, e, h => by
    cases e with
    | Subscript l s p =>
      match s, h with
      | .Slice none (some r) none _, h =>
        simp only [mE, Bool.and_eq_true] at h
        exact peSlT C (sE a C _ h.1) (sE b C _ h.2)
    | _ => exact (Bool.false_ne_true h).elim
  | .slF a b, sc, X, C, e, h => by
    cases e with
    | Subscript l s p =>
      match s, h with
      | .Slice (some r) none none _, h =>
        simp only [mE, Bool.and_eq_true] at h
        exact peSlF C (sE a C _ h.1) (sE b C _ h.2)
    | _ => exact (Bool.false_ne_true h).elim
  | .call k es, sc, X, C, e, h => by
    cases e with
    | Call f as ks p =>
      match f, as, ks, h with
      | .Name x _, l :: ls, [], h =>
        simp only [mE, Bool.and_eq_true, decide_eq_true_eq] at h
        obtain ⟨⟨⟨⟨⟨h1, h2⟩, h3⟩, h4⟩, h4e⟩, h5⟩ := h
        have ha := sEs es C _ h5
        cases es with
        | nil => simp [mEs] at h5
        | cons a as => exact peCall C h1 h2 h3 h4 h4e h5 ha
    | _ => exact (Bool.false_ne_true h).elim
  | .bi f es, sc, X, C, e, h => by
    cases e with
    | Call g as ks p =>
      match g, as, ks, h with
      | .Name x _, l :: ls, [], h =>
        simp only [mE, Bool.and_eq_true, decide_eq_true_eq] at h
        obtain ⟨⟨rfl, h3⟩, h5⟩ := h
        have ha := sEs es C _ h5
        cases es with
        | nil => simp [mEs] at h5
        | cons a as => exact peBi C h3 h5 ha
    | _ => exact (Bool.false_ne_true h).elim
  | .isi a T, sc, X, C, e, h => by
    cases e with
    | Call g as ks p =>
      match g, as, ks, h with
      | .Name x _, [l, .Name t _], [], h =>
        simp only [mE, Bool.and_eq_true, decide_eq_true_eq, Bool.not_eq_true', decide_eq_false_iff_not] at h
        obtain ⟨⟨⟨⟨⟨rfl, h3⟩, rfl⟩, h4⟩, h5⟩, h6⟩ := h
        exact peIsi C h3 h4 h6 h5 (sE a C _ h5)
    | _ => exact (Bool.false_ne_true h).elim
  | .app i b, sc, X, C, e, h => by
    cases e with
    | Call g as ks p =>
      match g, as, ks, h with
      | .Attribute (.Name y py) m ap, [r], [], h =>
        simp only [mE, Bool.and_eq_true, decide_eq_true_eq] at h
        obtain ⟨⟨⟨⟨⟨rfl, h1⟩, h2⟩, h3⟩, h4⟩, h5⟩ := h
        exact peApp C h1 h2 h3 h5 h4 (sE b C _ h4)
    | _ => exact (Bool.false_ne_true h).elim
  | .pop i, sc, X, C, e, h => by
    cases e with
    | Call g as ks p =>
      match g, as, ks, h with
      | .Attribute (.Name y py) m ap, [], [], h =>
        simp only [mE, Bool.and_eq_true, decide_eq_true_eq] at h
        obtain ⟨⟨⟨⟨rfl, h1⟩, h2⟩, h3⟩, h5⟩ := h
        exact pePop C h1 h2 h3 h5
    | _ => exact (Bool.false_ne_true h).elim
  | .lc own g one w c a, sc, X, C, e, h => by
    cases e with
    | ListComp elt gs sc' p =>
      match gs, h with
      | [⟨tg, iter, ifs, as⟩], h =>
        simp only [mE, Bool.and_eq_true, decide_eq_true_eq] at h
        obtain ⟨⟨⟨⟨⟨⟨rfl, h1⟩, h1t⟩, h2⟩, h3⟩, h4⟩, h5⟩ := h
        refine peLc C (sW w C tg _ h1 h1t) (nosetW h1 _) h2 h3 (fun C' => ?_) (fun C' => sE a C' _ h5)
        match ifs, h4 with
        | [], h4 =>
          rw [yes_of h4]
          exact pts_nil
        | [t], h4 => exact pts_one (sT c C' _ h4)
    | _ => exact (Bool.false_ne_true h).elim
  | .lc2 own vs1 g one w c g1 one1 w1 c1 a, sc, X, C, e, h => by
    cases e with
    | ListComp elt gs sc' p =>
      match gs, h with
      | [⟨tg, iter, ifs, as⟩, ⟨tg1, iter1, ifs1, as1⟩], h =>
        simp only [mE, Bool.and_eq_true, decide_eq_true_eq, List.all_eq_true] at h
        obtain ⟨⟨⟨⟨⟨⟨⟨⟨⟨⟨⟨⟨rfl, rfl⟩, h1⟩, h1t⟩, h2⟩, h3⟩, h4⟩, h5⟩, h5t⟩, h6⟩, h7⟩, h8⟩, h9⟩ := h
        refine peLc2 C (sW w C tg _ h1 h1t) (nosetW h1 _) h2 h3 (fun C' => ?_) (fun C' => sW w1 C' tg1 _ h5 h5t) (fun env x => nosetW h5 env x) h6 (fun C' => ?_) h8 (fun C' => sE a C' _ h9)
        · match ifs, h4 with
          | [], h4 =>
            rw [yes_of h4]
            exact pts_nil
          | [t], h4 => exact pts_one (sT c C' _ h4)
        · match ifs1, h7 with
          | [], h7 =>
            rw [yes_of h7]
            exact pts_nil
          | [t], h7 => exact pts_one (sT c1 C' _ h7)
    | _ => exact (Bool.false_ne_true h).elim
  | .dc pp own g one w a b, sc, X, C, e, h => by
    cases e with
    | DictComp kx vx gs sc' p =>
      match gs, h with
      | [⟨tg, iter, ifs, as⟩], h =>
        simp only [mE, Bool.and_eq_true, decide_eq_true_eq, List.isEmpty_iff] at h
        obtain ⟨⟨⟨⟨⟨⟨⟨rfl, rfl⟩, h1⟩, h1t⟩, h2⟩, h3⟩, h4⟩, h5⟩ := h
        exact peDc C (sW w C tg _ h1 h1t) (nosetW h1 _) h2 h3 (fun C' => sE a C' _ h4) (fun C' => sE b C' _ h5)
    | _ => exact (Bool.false_ne_true h).elim
  | .dmem pp neg a b, sc, X, C, e, h => by
    cases e with
    | Compare l ops rs p =>
      match ops, rs, h with
      | [o'], [r], h =>
        simp only [mE, Bool.and_eq_true, decide_eq_true_eq, Bool.not_eq_true'] at h
        obtain ⟨⟨⟨ho, h1⟩, h2⟩, h3⟩ := h
        exact peDmem C ho (sE a C _ h1) (sE b C _ h2) h3
    | _ => exact (Bool.false_ne_true h).elim
  | .dix pp a b, sc, X, C, e, h => by
    cases e <;> (simp only [mE, Bool.and_eq_true, Bool.not_eq_true', Bool.false_eq_true] at h)
    exact peDix C (sE a C _ h.1.1) (sE b C _ h.1.2) h.2
  | .dlen pp a, sc, X, C, e, h => by
    cases e with
    | Call g as ks p =>
      match g, as, ks, h with
      | .Name x _, [l], [], h =>
        simp only [mE, Bool.and_eq_true, decide_eq_true_eq] at h
        obtain ⟨⟨rfl, h1⟩, h2⟩ := h
        exact peDlen C h1 h2 (sE a C _ h2)
    | _ => exact (Bool.false_ne_true h).elim
  | .dlist pp a, sc, X, C, e, h => by
    cases e with
    | Call g as ks p =>
      match g, as, ks, h with
      | .Name x _, [l], [], h =>
        simp only [mE, Bool.and_eq_true, decide_eq_true_eq] at h
        obtain ⟨⟨rfl, h1⟩, h2⟩ := h
        exact peDlist C h1 h2 (sE a C _ h2)
    | _ => exact (Bool.false_ne_true h).elim
  | .mint a, sc, X, C, e, h => by
    cases e with
    | Call g as ks p =>
      match g, as, ks, h with
      | .Name x _, [l], [], h =>
        simp only [mE, Bool.and_eq_true, decide_eq_true_eq] at h
        obtain ⟨⟨rfl, h1⟩, h2⟩ := h
        exact peMint C h1 h2 (sE a C _ h2)
    | _ => exact (Bool.false_ne_true h).elim
  | .zipl a b, sc, X, C, e, h => by
    cases e with
    | Call g as ks p =>
      match g, as, ks, h with
      | .Name x _, [.Call (.Name y _) [l, r] [] _], [], h =>
        simp only [mE, Bool.and_eq_true, decide_eq_true_eq] at h
        obtain ⟨⟨⟨⟨⟨rfl, rfl⟩, h1⟩, h2⟩, h3⟩, h4⟩ := h
        exact peZipl C h1 h2 h3 h4 (sE a C _ h3) (sE b C _ h4)
    | _ => exact (Bool.false_ne_true h).elim
  | .ext i b, sc, X, C, e, h => by
    cases e with
    | Call g as ks p =>
      match g, as, ks, h with
      | .Attribute (.Name y py) m ap, [r], [], h =>
        simp only [mE, Bool.and_eq_true, decide_eq_true_eq] at h
        obtain ⟨⟨⟨⟨⟨rfl, h1⟩, h2⟩, h3⟩, h4⟩, h5⟩ := h
        exact peExt C h1 h2 h3 h5 h4 (sE b C _ h4)
    | _ => exact (Bool.false_ne_true h).elim
  | .mk x k es, sc, X, C, e, h => by
    cases e with
    | Call f as ks p =>
      match f, as, ks, h with
      | .Name y _, l :: ls, [], h =>
        simp only [mE, Bool.and_eq_true, decide_eq_true_eq] at h
        obtain ⟨⟨⟨⟨⟨rfl, h1⟩, h2⟩, h3⟩, h4⟩, h5⟩ := h
        have ha := sEs es C _ h5
        cases es with
        | nil => simp [mEs] at h5
        | cons a as => exact peMk C h1 h2 h3 h4 h5 ha
    | _ => exact (Bool.false_ne_true h).elim
  | .mk0 x, sc, X, C, e, h => by
    cases e with
    | Call f as ks p =>
      match f, as, ks, h with
      | .Name y _, [], [], h =>
        simp only [mE, Bool.and_eq_true, decide_eq_true_eq] at h
        obtain ⟨⟨⟨rfl, h2⟩, h3⟩, h4⟩ := h
        exact peMk0 C h2 h3 h4
    | _ => exact (Bool.false_ne_true h).elim
  | .fld a f ys, sc, X, C, e, h => by
    cases e <;> (simp only [mE, Bool.and_eq_true, decide_eq_true_eq, Bool.false_eq_true] at h)
    obtain ⟨⟨⟨rfl, h1⟩, h2⟩, h3⟩ := h
    exact peFld C h1 h3 (sE a C _ h2)
  | .meth a m tab es, sc, X, C, e, h => by
    cases e with
    | Call g as ks p =>
      match g, as, ks, h with
      | .Attribute l m' ap, r :: rs, [], h =>
        rw [mE] at h
        obtain ⟨h, h6⟩ := Bool.and_eq_true_iff.mp h
        obtain ⟨h, h5⟩ := Bool.and_eq_true_iff.mp h
        obtain ⟨h, h4⟩ := Bool.and_eq_true_iff.mp h
        obtain ⟨h, h3⟩ := Bool.and_eq_true_iff.mp h
        obtain ⟨h, h2⟩ := Bool.and_eq_true_iff.mp h
        obtain ⟨h0, h1⟩ := Bool.and_eq_true_iff.mp h
        have e0 := of_decide_eq_true h0
        subst e0
        have ha := sEs es C _ h3
        cases es with
        | nil => simp [mEs] at h3
        | cons b bs => exact peMeth C h1 h3 h4 h5 (of_decide_eq_true h6) (sE a C _ h2) ha
    | _ => exact (Bool.false_ne_true h).elim
  | .isc a x tab, sc, X, C, e, h => by
    cases e with
    | Call g as ks p =>
      match g, as, ks, h with
      | .Name i _, [l, .Name t _], [], h =>
        simp only [mE, Bool.and_eq_true, decide_eq_true_eq] at h
        obtain ⟨⟨⟨⟨⟨⟨⟨rfl, h1⟩, rfl⟩, h2⟩, h3⟩, h4⟩, h5⟩, h6⟩ := h
        exact peIsc C h1 h4 h2 h3 h5 h6 (sE a C _ h6)
    | _ => exact (Bool.false_ne_true h).elim
  | .dnew pp, sc, X, C, e, h => by
    cases e with
    | Dict ks vs p =>
      match ks, vs, h with
      | [], [], h => exact peDnew pp
    | _ => exact (Bool.false_ne_true h).elim
  | .dget pp a k d, sc, X, C, e, h => by
    cases e with
    | Call g as ks p =>
      match g, as, ks, h with
      | .Attribute l m ap, [r1, r2], [], h =>
        simp only [mE, Bool.and_eq_true, decide_eq_true_eq] at h
        obtain ⟨⟨⟨⟨⟨rfl, h1⟩, h2⟩, h3⟩, h4⟩, h5⟩ := h
        exact peDget C h2 h3 h4 h5 (sE a C _ h1) (sE k C _ h2) (sE d C _ h3)
    | _ => exact (Bool.false_ne_true h).elim
  | .sdef pp a k d, sc, X, C, e, h => by
    cases e with
    | Call g as ks p =>
      match g, as, ks, h with
      | .Attribute l m ap, [r1, r2], [], h =>
        simp only [mE, Bool.and_eq_true, decide_eq_true_eq] at h
        obtain ⟨⟨⟨⟨⟨rfl, h1⟩, h2⟩, h3⟩, h4⟩, h5⟩ := h
        exact peSdef C h2 h3 h4 h5 (sE a C _ h1) (sE k C _ h2) (sE d C _ h3)
    | _ => exact (Bool.false_ne_true h).elim
  | .appE a b, sc, X, C, e, h => by
    cases e with
    | Call g as ks p =>
      match g, as, ks, h with
      | .Attribute l m ap, [r], [], h =>
        simp only [mE, Bool.and_eq_true, decide_eq_true_eq] at h
        obtain ⟨⟨⟨⟨rfl, h1⟩, h2⟩, h3⟩, h4⟩ := h
        exact peAppE C h2 h3 h4 (sE a C _ h1) (sE b C _ h2)
    | _ => exact (Bool.false_ne_true h).elim
  | .cntB a b, sc, X, C, e, h => by
    cases e with
    | Call g as ks p =>
      match g, as, ks, h with
      | .Attribute l m ap, [r], [], h =>
        simp only [mE, Bool.and_eq_true, decide_eq_true_eq] at h
        obtain ⟨⟨⟨⟨rfl, h1⟩, h2⟩, h3⟩, h4⟩ := h
        exact peCntB C h2 h3 h4 (sE a C _ h1) (sE b C _ h2)
    | _ => exact (Bool.false_ne_true h).elim
  | .lock a, sc, X, C, e, h => by
    cases e with
    | ListComp elt gs sc' p =>
      simp only [mE] at h
      exact peLock (sE a C _ h)
    | _ => exact (Bool.false_ne_true h).elim
  | .sortT a, sc, X, C, e, h => by
    cases e with
    | Call g as ks p =>
      match g, as, ks, h with
      | .Name x _, [l], [], h =>
        simp only [mE, Bool.and_eq_true, decide_eq_true_eq] at h
        obtain ⟨⟨rfl, h1⟩, h2⟩ := h
        exact peSortT C h1 h2 (sE a C _ h2)
    | _ => exact (Bool.false_ne_true h).elim
  | .lrange a, sc, X, C, e, h => by
    cases e with
    | Call g as ks p =>
      match g, as, ks, h with
      | .Name x _, [.Call (.Name y _) [l] [] _], [], h =>
        simp only [mE, Bool.and_eq_true, decide_eq_true_eq] at h
        obtain ⟨⟨⟨⟨rfl, rfl⟩, h1⟩, h2⟩, h3⟩ := h
        exact peLrange C h1 h2 h3 (sE a C _ h3)
    | _ => exact (Bool.false_ne_true h).elim
  | .inL neg a b, sc, X, C, e, h => by
    cases e with
    | Compare l ops rs p =>
      match ops, rs, h with
      | [o'], [r], h =>
        simp only [mE, Bool.and_eq_true, decide_eq_true_eq, Bool.not_eq_true'] at h
        obtain ⟨⟨⟨ho, h1⟩, h2⟩, h3⟩ := h
        exact peInL C ho (sE a C _ h1) (sE b C _ h2) h3
    | _ => exact (Bool.false_ne_true h).elim
theorem sT : ∀ (ir : E) {sc : Scope} {X : Cx} (C : Ctx CX K Γ gv N ft gt sg n sc X) (e : Expr), mE N ft gt sg n ir sc e = true → PT X e (wpT K Γ gv ir)
  | .var i, sc, X, C, e, h => by
    cases e <;> (simp only [mE, Bool.and_eq_true, decide_eq_true_eq, Bool.false_eq_true] at h)
    refine PT.eqv (ptTru C (peVar C h.1.1 h.1.2 h.2) fun _ => rfl) ?_
    funext σ H Q
    simp only [wpT, tVar, atS_eq]
  | .cmp o a b, sc, X, C, e, h => by
    cases e with
    | Compare l ops rs p =>
      match ops, rs, h with
      | [o'], [r], h =>
        simp only [mE, Bool.and_eq_true, decide_eq_true_eq, Bool.not_eq_true'] at h
        obtain ⟨⟨⟨rfl, h1⟩, h2⟩, h3⟩ := h
        exact ptCmp C (sE a C _ h1) (sE b C _ h2) h3
    | _ => exact (Bool.false_ne_true h).elim
  | .chain o q a b c, sc, X, C, e, h => by
    cases e with
    | Compare l ops rs p =>
      match ops, rs, h with
      | [o', q'], [m, r], h =>
        simp only [mE, Bool.and_eq_true, decide_eq_true_eq, Bool.not_eq_true'] at h
        obtain ⟨⟨⟨⟨⟨rfl, rfl⟩, h1⟩, h2⟩, h3⟩, h4⟩ := h
        exact ptChain C (sE a C _ h1) (sE b C _ h2) (sE c C _ h3) h4
    | _ => exact (Bool.false_ne_true h).elim
  | .and a b, sc, X, C, e, h => by
    cases e with
    | BoolOp o vs p =>
      match o, vs, h with
      | .And, [l, m], h =>
        simp only [mE, Bool.and_eq_true] at h
        exact PW.pt (pw_and (sT a C _ h.1) (pw_and1 (sT b C _ h.2)))
      | .And, l :: m :: m' :: rest, h =>
        simp only [mE, Bool.and_eq_true] at h
        have q := sT b C _ h.2
        exact PW.pt (pw_and (sT a C _ h.1) (fun wh => q))
    | _ => exact (Bool.false_ne_true h).elim
  | .or a b, sc, X, C, e, h => by
    cases e with
    | BoolOp o vs p =>
      match o, vs, h with
      | .Or, [l, m], h =>
        simp only [mE, Bool.and_eq_true] at h
        exact PW.pt (pw_or (sT a C _ h.1) (pw_or1 (sT b C _ h.2)))
      | .Or, l :: m :: m' :: rest, h =>
        simp only [mE, Bool.and_eq_true] at h
        have q := sT b C _ h.2
        exact PW.pt (pw_or (sT a C _ h.1) (fun wh => q))
    | _ => exact (Bool.false_ne_true h).elim
  | .not a, sc, X, C, e, h => by
    cases e with
    | UnaryOp op l p =>
      cases op <;> (simp only [mE, Bool.false_eq_true] at h)
      exact pt_not (sT a C _ h)
    | _ => exact (Bool.false_ne_true h).elim
  | .call k es, sc, X, C, e, h => by
    cases e with
    | Call f as ks p =>
      match f, as, ks, h with
      | .Name x _, l :: ls, [], h =>
        simp only [mE, Bool.and_eq_true, decide_eq_true_eq] at h
        obtain ⟨⟨⟨⟨⟨h1, h2⟩, h3⟩, h4⟩, h4e⟩, h5⟩ := h
        have ha := sEs es C _ h5
        cases es with
        | nil => simp [mEs] at h5
        | cons a as => exact ptTru C (peCall C h1 h2 h3 h4 h4e h5 ha) fun _ => rfl
    | _ => exact (Bool.false_ne_true h).elim
  | .bi f es, sc, X, C, e, h => by
    cases e with
    | Call g as ks p =>
      match g, as, ks, h with
      | .Name x _, l :: ls, [], h =>
        simp only [mE, Bool.and_eq_true, decide_eq_true_eq] at h
        obtain ⟨⟨rfl, h3⟩, h5⟩ := h
        have ha := sEs es C _ h5
        cases es with
        | nil => simp [mEs] at h5
        | cons a as => exact ptTru C (peBi C h3 h5 ha) fun _ => rfl
    | _ => exact (Bool.false_ne_true h).elim
  | .isi a T, sc, X, C, e, h => by
    cases e with
    | Call g as ks p =>
      match g, as, ks, h with
      | .Name x _, [l, .Name t _], [], h =>
        simp only [mE, Bool.and_eq_true, decide_eq_true_eq, Bool.not_eq_true', decide_eq_false_iff_not] at h
        obtain ⟨⟨⟨⟨⟨rfl, h3⟩, rfl⟩, h4⟩, h5⟩, h6⟩ := h
        exact ptTru C (peIsi C h3 h4 h6 h5 (sE a C _ h5)) fun _ => rfl
    | _ => exact (Bool.false_ne_true h).elim
  | .dmem pp neg a b, sc, X, C, e, h => by
    cases e with
    | Compare l ops rs p =>
      match ops, rs, h with
      | [o'], [r], h =>
        simp only [mE, Bool.and_eq_true, decide_eq_true_eq, Bool.not_eq_true'] at h
        obtain ⟨⟨⟨ho, h1⟩, h2⟩, h3⟩ := h
        exact ptDmem C ho (sE a C _ h1) (sE b C _ h2) h3
    | _ => exact (Bool.false_ne_true h).elim
  | .isc a x tab, sc, X, C, e, h => by
    cases e with
    | Call g as ks p =>
      match g, as, ks, h with
      | .Name i _, [l, .Name t _], [], h =>
        simp only [mE, Bool.and_eq_true, decide_eq_true_eq] at h
        obtain ⟨⟨⟨⟨⟨⟨⟨rfl, h1⟩, rfl⟩, h2⟩, h3⟩, h4⟩, h5⟩, h6⟩ := h
        refine PT.eqv (ptTru C (peIsc C h1 h4 h2 h3 h5 h6 (sE a C _ h6)) fun _ => rfl) ?_
        funext σ H Q
        simp only [wpT, wpE]
    | _ => exact (Bool.false_ne_true h).elim
  | .meth a m tab es, sc, X, C, e, h => by
    cases e with
    | Call g as ks p =>
      match g, as, ks, h with
      | .Attribute l m' ap, r :: rs, [], h =>
        rw [mE] at h
        obtain ⟨h, h6⟩ := Bool.and_eq_true_iff.mp h
        obtain ⟨h, h5⟩ := Bool.and_eq_true_iff.mp h
        obtain ⟨h, h4⟩ := Bool.and_eq_true_iff.mp h
        obtain ⟨h, h3⟩ := Bool.and_eq_true_iff.mp h
        obtain ⟨h, h2⟩ := Bool.and_eq_true_iff.mp h
        obtain ⟨h0, h1⟩ := Bool.and_eq_true_iff.mp h
        have e0 := of_decide_eq_true h0
        subst e0
        have ha := sEs es C _ h3
        cases es with
        | nil => simp [mEs] at h3
        | cons b bs =>
          refine PT.eqv (ptTru C (peMeth C h1 h3 h4 h5 (of_decide_eq_true h6) (sE a C _ h2) ha) fun _ => rfl) ?_
          funext σ H Q
          simp only [wpT, wpE]
    | _ => exact (Bool.false_ne_true h).elim
  | .bl true, sc, X, C, e, h => by
    cases e with
    | Constant v k p =>
      cases v <;> (simp only [mE, decide_eq_true_eq, Bool.false_eq_true] at h)
      subst h
      refine PT.eqv (ptTru C pe_bl fun _ => rfl) ?_
      funext σ H Q
      simp only [wpT, tC, truW]
    | _ => exact (Bool.false_ne_true h).elim
  | .bl false, sc, X, C, e, h => fun _ _ _ _ _ _ z => (show False from z).elim
  | .int _, sc, X, C, e, h => fun _ _ _ _ _ _ z => (show False from z).elim
  | .non, sc, X, C, e, h => fun _ _ _ _ _ _ z => (show False from z).elim
  | .str _, sc, X, C, e, h => fun _ _ _ _ _ _ z => (show False from z).elim
  | .glob _, sc, X, C, e, h => fun _ _ _ _ _ _ z => (show False from z).elim
  | .op _ _ _, sc, X, C, e, h => fun _ _ _ _ _ _ z => (show False from z).elim
  | .neg _, sc, X, C, e, h => fun _ _ _ _ _ _ z => (show False from z).elim
  | .ife _ _ _, sc, X, C, e, h => fun _ _ _ _ _ _ z => (show False from z).elim
  | .tup _, sc, X, C, e, h => fun _ _ _ _ _ _ z => (show False from z).elim
  | .lst _, sc, X, C, e, h => fun _ _ _ _ _ _ z => (show False from z).elim
  | .ix a b, sc, X, C, e, h => by
    cases e <;> (simp only [mE, Bool.and_eq_true, Bool.not_eq_true', Bool.false_eq_true] at h)
    refine PT.eqv (ptTru C (peIx C (sE a C _ h.1.1) (sE b C _ h.1.2) h.2) fun _ => rfl) ?_
    funext σ H Q
    simp only [wpT, wpE]
  | .inL neg a b, sc, X, C, e, h => by
    cases e with
    | Compare l ops rs p =>
      match ops, rs, h with
      | [o'], [r], h =>
        simp only [mE, Bool.and_eq_true, decide_eq_true_eq, Bool.not_eq_true'] at h
        obtain ⟨⟨⟨ho, h1⟩, h2⟩, h3⟩ := h
        exact ptInL C ho (sE a C _ h1) (sE b C _ h2) h3
    | _ => exact (Bool.false_ne_true h).elim
  | .slT _ _, sc, X, C, e, h => fun _ _ _ _ _ _ z => (show False from z).elim
  | .slF _ _, sc, X, C, e, h => fun _ _ _ _ _ _ z => (show False from z).elim
  | .app _ _, sc, X, C, e, h => fun _ _ _ _ _ _ z => (show False from z).elim
  | .pop _, sc, X, C, e, h => fun _ _ _ _ _ _ z => (show False from z).elim
  | .lc _ _ _ _ _ _, sc, X, C, e, h => fun _ _ _ _ _ _ z => (show False from z).elim
  | .lc2 _ _ _ _ _ _ _ _ _ _ _, sc, X, C, e, h => fun _ _ _ _ _ _ z => (show False from z).elim
  | .dc _ _ _ _ _ _ _, sc, X, C, e, h => fun _ _ _ _ _ _ z => (show False from z).elim
  | .dix _ _ _, sc, X, C, e, h => fun _ _ _ _ _ _ z => (show False from z).elim
  | .dlen _ _, sc, X, C, e, h => fun _ _ _ _ _ _ z => (show False from z).elim
  | .dlist _ _, sc, X, C, e, h => fun _ _ _ _ _ _ z => (show False from z).elim
  | .zipl _ _, sc, X, C, e, h => fun _ _ _ _ _ _ z => (show False from z).elim
  | .mint _, sc, X, C, e, h => fun _ _ _ _ _ _ z => (show False from z).elim
  | .ext _ _, sc, X, C, e, h => fun _ _ _ _ _ _ z => (show False from z).elim
  | .mk _ _ _, sc, X, C, e, h => fun _ _ _ _ _ _ z => (show False from z).elim
  | .mk0 _, sc, X, C, e, h => fun _ _ _ _ _ _ z => (show False from z).elim
  | .fld _ _ _, sc, X, C, e, h => fun _ _ _ _ _ _ z => (show False from z).elim
  | .dnew _, sc, X, C, e, h => fun _ _ _ _ _ _ z => (show False from z).elim
  | .dget _ _ _ _, sc, X, C, e, h => fun _ _ _ _ _ _ z => (show False from z).elim
  | .sdef _ _ _ _, sc, X, C, e, h => fun _ _ _ _ _ _ z => (show False from z).elim
  | .appE _ _, sc, X, C, e, h => fun _ _ _ _ _ _ z => (show False from z).elim
  | .lock _, sc, X, C, e, h => fun _ _ _ _ _ _ z => (show False from z).elim
  | .sortT _, sc, X, C, e, h => fun _ _ _ _ _ _ z => (show False from z).elim
  | .lrange _, sc, X, C, e, h => fun _ _ _ _ _ _ z => (show False from z).elim
  | .cntB _ _, sc, X, C, e, h => fun _ _ _ _ _ _ z => (show False from z).elim
theorem sEs : ∀ (is : Es) {sc : Scope} {X : Cx} (C : Ctx CX K Γ gv N ft gt sg n sc X) (ls : List Expr), mEs N ft gt sg n is sc ls = true → PA X ls (wpEs K Γ gv is)
  | .nil, sc, X, C, ls, h => by
    cases ls with
    | nil => exact pa_nil
    | cons _ _ => simp [mEs] at h
  | .cons e es, sc, X, C, ls, h => by
    cases ls with
    | nil => simp [mEs] at h
    | cons l ls =>
      simp only [mEs, Bool.and_eq_true] at h
      exact pa_cons (sE e C _ h.1) (sEs es C _ h.2) (star_of h.1 _ _)
theorem sW : ∀ (w : W) {sc : Scope} {X : Cx} (C : Ctx CX K Γ gv N ft gt sg n sc X) (tg e : Expr), mW N ft gt sg n w sc e = true → wT w tg = true → PI X tg e (wpW K Γ gv w)
  | .list a, sc, X, C, tg, e, h, ht => by
    simp only [mW] at h
    have q := pi_list (tg := tg) (sE a C _ h)
    rw [C.hK] at q
    exact q
  | .tup a, sc, X, C, tg, e, h, ht => by
    simp only [mW] at h
    have q := pi_tup (tg := tg) (sE a C _ h)
    rw [C.hK] at q
    exact q
  | .rng1 a, sc, X, C, tg, e, h, ht => by
    cases e with
    | Call g as ks p =>
      match g, as, ks, h with
      | .Name x _, [l], [], h =>
        simp only [mW, Bool.and_eq_true, decide_eq_true_eq] at h
        obtain ⟨⟨rfl, h1⟩, h2⟩ := h
        exact piRng1 C h1 h2 (sE a C _ h2)
    | _ => exact (Bool.false_ne_true h).elim
  | .rng2 a b, sc, X, C, tg, e, h, ht => by
    cases e with
    | Call g as ks p =>
      match g, as, ks, h with
      | .Name x _, [l, r], [], h =>
        simp only [mW, Bool.and_eq_true, decide_eq_true_eq] at h
        obtain ⟨⟨⟨rfl, h1⟩, h2⟩, h3⟩ := h
        exact piRng2 C h1 h2 h3 (sE a C _ h2) (sE b C _ h3)
    | _ => exact (Bool.false_ne_true h).elim
  | .enum a, sc, X, C, tg, e, h, ht => by
    cases e with
    | Call g as ks p =>
      match g, as, ks, h with
      | .Name x _, [l], [], h =>
        simp only [mW, Bool.and_eq_true, decide_eq_true_eq] at h
        obtain ⟨⟨rfl, h1⟩, h2⟩ := h
        cases tg with
        | Tuple es k q => exact piEnum C h1 h2 (sE a C _ h2)
        | _ => simp [wT, isTp] at ht
    | _ => exact (Bool.false_ne_true h).elim
  | .zip a b, sc, X, C, tg, e, h, ht => by
    cases e with
    | Call g as ks p =>
      match g, as, ks, h with
      | .Name x _, [l, r], [], h =>
        simp only [mW, Bool.and_eq_true, decide_eq_true_eq] at h
        obtain ⟨⟨⟨rfl, h1⟩, h2⟩, h3⟩ := h
        cases tg with
        | Tuple es k q => exact piZip C h1 h2 h3 (sE a C _ h2) (sE b C _ h3)
        | _ => simp [wT, isTp] at ht
    | _ => exact (Bool.false_ne_true h).elim
  | .revr a, sc, X, C, tg, e, h, ht => by
    cases e with
    | Call g as ks p =>
      match g, as, ks, h with
      | .Name x _, [.Call (.Name y _) [l] [] _], [], h =>
        simp only [mW, Bool.and_eq_true, decide_eq_true_eq] at h
        obtain ⟨⟨⟨⟨rfl, rfl⟩, h1⟩, h2⟩, h3⟩ := h
        exact piRevr C h1 h2 h3 (sE a C _ h3)
    | _ => exact (Bool.false_ne_true h).elim
  | .dict pp a, sc, X, C, tg, e, h, ht => by
    simp only [mW] at h
    exact piDict (sE a C _ h)
end
end
end L2.IR
set_option Elab.async false
set_option linter.all false
set_option maxRecDepth 100000
set_option maxHeartbeats 4000000
namespace L2.IR
open PySem PySem.Spec PyProof.Rows
section
variable {CX : CXT} {K : PySem.W.Frag} {Γ : Nat → Sp} {gv : Nat → V} {N ft gt : List Str} {sg : Sg} {n : Nat} {sc : Scope} {X : Cx}
theorem noswap {e : Expr} (h : isLc e = false) (t : Option Expr) (k : Nat) (env : Env) : swapsWith e t k env = pure false := by
  cases e <;> first | (simp [isLc] at h; done) | rfl
theorem swapped {x y : Str} {px py pt pt2 : Pos} {kt k2 : Nat} {l r : Expr} {env : Env} {a b : E} (hb : env.scope.kind = .function) (hx : env.scope.names.lookup x = some .local) (hy : env.scope.names.lookup y = some .local) (ne : x ≠ y) (hl : (px.line == py.line) = true)
    (h1 : [l, r].all (foldedForSure 8) = false) (h2 : [l, r].all (constantsAlone 8) = false) (m1 : mE N ft gt sg n a sc l = true) (m2 : mE N ft gt sg n b sc r = true) :
    swappedStores [.Tuple [.Name x px, .Name y py] kt pt] (.Tuple [l, r] k2 pt2) env = pure (some [x, y]) := by
  have kx : env.kindOf x = some .local := hx
  have ky : env.kindOf y = some .local := hy
  have hk : env.blockKind = .function := by unfold Env.blockKind; rw [hb]; rfl
  have hl' : py.line = px.line := (beq_iff_eq.mp hl).symm
  unfold swappedStores
  simp only [hk, kx, ky, h1, h2, List.any_cons, List.any_nil, Expr.pos, hl', List.filterMap_cons, List.filterMap_nil, List.head?_cons, Option.map_some, Option.getD_some]
  have ne' : (y == x) = false := beq_eq_false_iff_ne.mpr (Ne.symm ne)
  have ne2 : (x == y) = false := beq_eq_false_iff_ne.mpr ne
  simp [List.eraseDups_cons, ne', ne2]
  rintro (q | q)
  · cases l with
    | Starred v p =>
      have z : mE N ft gt sg n a sc (.Starred v p) = false := by cases a <;> rfl
      rw [z] at m1
      cases m1
    | _ => cases q
  · cases r with
    | Starred v p =>
      have z : mE N ft gt sg n b sc (.Starred v p) = false := by cases b <;> rfl
      rw [z] at m2
      cases m2
    | _ => cases q
theorem celB_of {sc : Scope} {x : Str} (h : celB sc x = true) : sc.names.lookup x = some .cell := by
  unfold celB at h
  split at h <;> first | assumption | cases h
theorem nocell {e : Expr} {x : Str} {p : Pos} {k : Nat} {env : Env} (h : env.scope.names.lookup x = some .cell) : swapsWith e (some (.Name x p)) k env = pure false := by
  have kx : env.kindOf x = some .cell := h
  have z : (some NameKind.cell == some NameKind.local) = false := by decide
  cases e <;> first | rfl | (unfold swapsWith; simp only [kx, z, Bool.and_false, Bool.false_and])
theorem psSet (C : Ctx CX K Γ gv N ft gt sg n sc X) {i : Nat} {x : Str} {px pos : Pos} {l : Expr} {a : E} (h1 : N[i]? = some x) (h2 : locB sc x = true) (h : PE X l (wpE K Γ gv a)) (hl : isLc l = false ∨ celB sc x = true) : PS X (.Assign [.Name x px] l pos) (wpS K Γ gv (.set i a)) := by
  rcases locB_of h2 with q | q
  · rcases hl with hl | hl
    · exact ps_set (by rw [C.hN]; exact C.nd) (by rw [C.hN]; exact h1) (.inl (C.loc x q)) h (noswap hl _ _ _) (.inr (C.loc x q))
    · rw [celB_of hl] at q; cases q
  · exact ps_set (by rw [C.hN]; exact C.nd) (by rw [C.hN]; exact h1) (.inr (C.cel x q)) h (nocell (C.cel x q)) (.inl (C.fn x q))
theorem psSetLc2 (C : Ctx CX K Γ gv N ft gt sg n sc X) {i : Nat} {x : Str} {px spos pos : Pos} {a c c1 : E} {own vs1 g g1 : List Nat} {one one1 : Bool} {w w1 : W} {tg iter tg1 iter1 elt : Expr} {ifs ifs1 : List Expr} {sc' : Scope} (h1 : N[i]? = some x) (h2 : lclB sc x = true) (hl : (px.line == pos.line) = true)
    (hn : (sc'.names.any fun (n, k) => n == x && (k == .local || k == .cell)) = false) (hw : PI X tg iter (wpW K Γ gv w)) (hs : ∀ x, foldedSetIterable iter X.env x = pure x) (hb : blkC N sc sc' (ownL N own) = true)
    (hg : mG N g one sc' tg = true) (ht : ∀ {X' : Cx}, Ctx CX K Γ gv N ft gt sg n sc' X' → PTs X' ifs (wpT K Γ gv c)) (hw1 : ∀ {X' : Cx}, Ctx CX K Γ gv N ft gt sg n sc' X' → PI X' tg1 iter1 (wpW K Γ gv w1)) (hs1 : ∀ env x, foldedSetIterable iter1 env x = pure x)
    (hg1 : mG N g1 one1 sc' tg1 = true) (ht1 : ∀ {X' : Cx}, Ctx CX K Γ gv N ft gt sg n sc' X' → PTs X' ifs1 (wpT K Γ gv c1)) (hv : ∀ i ∈ vs1, i ∈ own) (he : ∀ {X' : Cx}, Ctx CX K Γ gv N ft gt sg n sc' X' → PE X' elt (wpE K Γ gv a)) :
    PS X (.Assign [.Name x px] (.ListComp elt [⟨tg, iter, ifs, 0⟩, ⟨tg1, iter1, ifs1, 0⟩] sc' pos) spos) (wpS K Γ gv (.setLc2 i own vs1 g one w c g1 one1 w1 c1 a)) := by
  have ok := blkOk_by hb
  have q := ps_setLc2 (i := i) (pos := pos) (spos := spos) (own := ownL N own) (vs1 := vs1) C.calm (by rw [C.hN]; exact C.nd) (by rw [C.hN]; exact h1) (C.loc x (lclB_of h2)) (sw_true C.kind (C.loc x (lclB_of h2)) hl hn) hw (C.blkOk ok) (by rw [ownL_snd]; exact hv) (fun s H D cl fp => pgG (C.blk sc' s H D cl fp ok.kind) hg) (fun s H D cl fp => ht (C.blk sc' s H D cl fp ok.kind))
    (fun s H D cl fp => hw1 (C.blk sc' s H D cl fp ok.kind)) (fun s H D cl fp => pgG (C.blk sc' s H D cl fp ok.kind) hg1) (fun s H D cl fp => ht1 (C.blk sc' s H D cl fp ok.kind)) (fun s H D cl fp => he (C.blk sc' s H D cl fp ok.kind)) hs hs1
  rw [ownL_snd] at q
  exact q
theorem psSetDc (C : Ctx CX K Γ gv N ft gt sg n sc X) {i : Nat} {x : Str} {px spos pos : Pos} {a b : E} {pp : Bool} {own g : List Nat} {one : Bool} {w : W} {tg iter kx vx : Expr} {sc' : Scope} (h1 : N[i]? = some x) (h2 : lclB sc x = true) (hl : (px.line == pos.line) = true)
    (hn : (sc'.names.any fun (n, k) => n == x && (k == .local || k == .cell)) = false) (hw : PI X tg iter (wpW K Γ gv w)) (hs : ∀ x, foldedSetIterable iter X.env x = pure x) (hb : blkC N sc sc' (ownL N own) = true)
    (hg : mG N g one sc' tg = true) (hk : ∀ {X' : Cx}, Ctx CX K Γ gv N ft gt sg n sc' X' → PE X' kx (wpE K Γ gv a)) (hv : ∀ {X' : Cx}, Ctx CX K Γ gv N ft gt sg n sc' X' → PE X' vx (wpE K Γ gv b)) :
    PS X (.Assign [.Name x px] (.DictComp kx vx [⟨tg, iter, [], 0⟩] sc' pos) spos) (wpS K Γ gv (.setDc i pp own g one w a b)) := by
  have ok := blkOk_by hb
  cases pp
  · have q := ps_setDc (𝔡 := dkT) (i := i) (pos := pos) (spos := spos) (own := ownL N own) C.calm (by rw [C.hN]; exact C.nd) (by rw [C.hN]; exact h1) (C.loc x (lclB_of h2)) (sw_trueD C.kind (C.loc x (lclB_of h2)) hl hn) hw (C.blkOk ok) (fun s H D cl fp => pgG (C.blk sc' s H D cl fp ok.kind) hg) (fun s H D cl fp => pts_nil) (fun s H D cl fp => hk (C.blk sc' s H D cl fp ok.kind)) (fun s H D cl fp => hv (C.blk sc' s H D cl fp ok.kind)) C.u2 hs
    rw [ownL_snd] at q
    exact q
  · have q := ps_setDc (𝔡 := dkP) (i := i) (pos := pos) (spos := spos) (own := ownL N own) C.calm (by rw [C.hN]; exact C.nd) (by rw [C.hN]; exact h1) (C.loc x (lclB_of h2)) (sw_trueD C.kind (C.loc x (lclB_of h2)) hl hn) hw (C.blkOk ok) (fun s H D cl fp => pgG (C.blk sc' s H D cl fp ok.kind) hg) (fun s H D cl fp => pts_nil) (fun s H D cl fp => hk (C.blk sc' s H D cl fp ok.kind)) (fun s H D cl fp => hv (C.blk sc' s H D cl fp ok.kind)) C.u2 hs
    rw [ownL_snd] at q
    exact q
theorem psSetfld (C : Ctx CX K Γ gv N ft gt sg n sc X) {o l : Expr} {f : Str} {ys : List Str} {p pos : Pos} {a b : E} (hy : (ys.all fun y => decide ((y, f) ∈ sg.fl)) = true) (ha : PE X o (wpE K Γ gv a)) (hb : PE X l (wpE K Γ gv b)) (hl : isLc l = false) : PS X (.Assign [.Attribute o f p] l pos) (wpS K Γ gv (.setfld a f ys b)) := by
  intro pins s σ H D I h
  refine plainObj_wpAny_Assign_Attribute (thn (hb pins s σ H _ I h) fun u s1 ⟨y, H1, I1, ry, q⟩ => thn (ha pins s1 σ H1 _ I1 q) fun ov s2 ⟨x, H2, I2, rx, a', y', dx, fs, ex, ea, my, lf, q2⟩ => ?_) (noswap hl _ _ _)
  subst ex
  obtain rfl : ov = Value.ref a' := rx
  have hfl := List.all_eq_true.mp hy y' my
  simp only [decide_eq_true_eq] at hfl
  obtain ⟨hc, na⟩ := C.sgo.fl y' f hfl
  have cf := C.sgo.cl y' hc
  have hK := C.hK
  subst hK
  exact setattr_ok I2 ea cf.cls na lf ry fun s3 I3 => ⟨σ, _, I3, q2⟩
theorem psSetLc (C : Ctx CX K Γ gv N ft gt sg n sc X) {i : Nat} {x : Str} {px spos pos : Pos} {a c : E} {own g : List Nat} {one : Bool} {w : W} {tg iter elt : Expr} {ifs : List Expr} {sc' : Scope} (h1 : N[i]? = some x) (h2 : lclB sc x = true) (hl : (px.line == pos.line) = true)
    (hn : (sc'.names.any fun (n, k) => n == x && (k == .local || k == .cell)) = false) (hw : PI X tg iter (wpW K Γ gv w)) (hs : ∀ x, foldedSetIterable iter X.env x = pure x) (hb : blkC N sc sc' (ownL N own) = true)
    (hg : mG N g one sc' tg = true) (ht : ∀ {X' : Cx}, Ctx CX K Γ gv N ft gt sg n sc' X' → PTs X' ifs (wpT K Γ gv c)) (he : ∀ {X' : Cx}, Ctx CX K Γ gv N ft gt sg n sc' X' → PE X' elt (wpE K Γ gv a)) :
    PS X (.Assign [.Name x px] (.ListComp elt [⟨tg, iter, ifs, 0⟩] sc' pos) spos) (wpS K Γ gv (.setLc i own g one w c a)) := by
  have ok := blkOk_by hb
  have q := ps_setLc (i := i) (pos := pos) (spos := spos) (own := ownL N own) C.calm (by rw [C.hN]; exact C.nd) (by rw [C.hN]; exact h1) (C.loc x (lclB_of h2)) (sw_true C.kind (C.loc x (lclB_of h2)) hl hn) hw (C.blkOk ok) (fun s H D cl fp => pgG (C.blk sc' s H D cl fp ok.kind) hg) (fun s H D cl fp => ht (C.blk sc' s H D cl fp ok.kind)) (fun s H D cl fp => he (C.blk sc' s H D cl fp ok.kind)) hs
  rw [ownL_snd] at q
  exact q
theorem fm_lt {f : Expr → Option Str} : ∀ {es : List Expr}, (∃ e ∈ es, f e = none) → (es.filterMap f).length < es.length
  | [], h => by obtain ⟨e, h, _⟩ := h; cases h
  | e :: es, h => by
    rw [List.filterMap_cons]
    have le := List.length_filterMap_le f es
    cases z : f e with
    | none => simp only [List.length_cons]; omega
    | some y =>
      obtain ⟨e', hm, he⟩ := h
      rcases List.mem_cons.mp hm with rfl | hm
      · rw [z] at he; cases he
      · have := fm_lt ⟨e', hm, he⟩
        simp only [List.length_cons]
        omega
theorem cel_in : ∀ {es : List Expr}, hasCel sc es = true → ∃ x p, Expr.Name x p ∈ es ∧ sc.names.lookup x = some .cell
  | [], h => by cases h
  | e :: es, h => by
    have rest : hasCel sc es = true → ∃ x p, Expr.Name x p ∈ e :: es ∧ sc.names.lookup x = some .cell := fun h => by
      obtain ⟨x, p, h1, h2⟩ := cel_in h
      exact ⟨x, p, List.mem_cons_of_mem _ h1, h2⟩
    cases e with
    | Name x p =>
      simp only [hasCel, Bool.or_eq_true] at h
      rcases h with h | h
      · refine ⟨x, p, List.mem_cons_self, ?_⟩
        unfold celB at h
        split at h
        · assumption
        · cases h
      · exact rest h
    | _ => exact rest h
theorem noSwapC {es : List Expr} {k : Nat} {p : Pos} {l : Expr} {env : Env} {x : Str} {px : Pos} (hm : Expr.Name x px ∈ es) (hx : env.scope.names.lookup x = some .cell) : swappedStores [.Tuple es k p] l env = pure none := by
  cases l with
  | Tuple vs k2 p2 =>
    have kx : env.kindOf x = some .cell := hx
    unfold swappedStores
    simp only []
    split
    · rfl
    · split
      · rfl
      · rw [if_pos]
        have := fm_lt (es := es) (f := fun e => match e with
          | .Name id pos => if (env.kindOf id == some .local && pos.line == (Option.map (fun x => x.pos.line) es.head?).getD 0) = true then some id else none
          | _ => none) ⟨_, hm, by simp only [kx]; rfl⟩
        simp only [Bool.or_eq_true, bne_iff_ne, ne_eq]
        exact .inl (Nat.ne_of_lt this)
  | _ => rfl
theorem psSetT (C : Ctx CX K Γ gv N ft gt sg n sc X) {is : List Nat} {es : List Expr} {k : Nat} {p pos : Pos} {l : Expr} {a : E} (h1 : mNames N sc is es = true) (h : PE X l (wpE K Γ gv a)) (hl : isLc l = false) (ht : isTp l = false ∨ hasCel sc es = true) :
    PS X (.Assign [.Tuple es k p] l pos) (wpS K Γ gv (.setT is a)) := by
  have g : PG X (.Tuple es k p) (gW K is false) := pgG C (by simpa [mG] using h1)
  refine ps_asg h g (noswap hl (some (.Tuple es k p)) pos.line X.env) ?_ rfl
  rcases ht with ht | ht
  · cases l <;> first | rfl | (simp [isTp] at ht; done)
  · obtain ⟨x, px, hm, hx⟩ := cel_in ht
    exact noSwapC hm (C.cel x hx)
theorem psDput (C : Ctx CX K Γ gv N ft gt sg n sc X) {pp : Bool} {o i l : Expr} {p pos : Pos} {a b c : E} (ha : PE X o (wpE K Γ gv a)) (hb : PE X i (wpE K Γ gv b)) (hc : PE X l (wpE K Γ gv c)) (hl : isLc l = false) (hs : isSl i = false) : PS X (.Assign [.Subscript o i p] l pos) (wpS K Γ gv (.dput pp a b c)) := by
  cases pp
  · exact ps_ddput (𝔡 := dkT) C.u2 ha hb hc (noswap hl _ _ _)
  · exact ps_ddput (𝔡 := dkP) C.u2 ha hb hc (noswap hl _ _ _)
theorem psPar (C : Ctx CX K Γ gv N ft gt sg n sc X) {i j : Nat} {x y : Str} {px py pt pt2 pos : Pos} {kt k2 : Nat} {l r : Expr} {a b : E} (h1 : N[i]? = some x) (h2 : N[j]? = some y) (ij : i ≠ j) (hx : lclB sc x = true) (hy : lclB sc y = true) (ne : x ≠ y) (hl : (px.line == py.line) = true)
    (f1 : [l, r].all (foldedForSure 8) = false) (f2 : [l, r].all (constantsAlone 8) = false) (m1 : mE N ft gt sg n a sc l = true) (m2 : mE N ft gt sg n b sc r = true) (ha : PE X l (wpE K Γ gv a)) (hb : PE X r (wpE K Γ gv b)) :
    PS X (.Assign [.Tuple [.Name x px, .Name y py] kt pt] (.Tuple [l, r] k2 pt2) pos) (wpS K Γ gv (.par i j a b)) := by
  have lx := C.loc x (lclB_of hx)
  have ly := C.loc y (lclB_of hy)
  have q := ps_par (pos := pos) C.calm (by rw [C.hN]; exact C.nd) (by rw [C.hN]; exact h1) (by rw [C.hN]; exact h2) ij lx ly (pa_cons ha (pa_cons hb pa_nil (star_of m2 _ _)) (star_of m1 _ _)) (swapped (kt := kt) (k2 := k2) (pt := pt) (pt2 := pt2) C.kind lx ly ne hl f1 f2 m1 m2) rfl
  intro pins s σ H D I h
  refine q pins s σ H D I ?_
  simp only [tPar, tCons, tNil]
  simp only [wpS] at h
  have e : ∀ (v w : V) (H1 : Hp), (∃ v' w', [v, w] = [v', w'] ∧ D.nx ((σ.set i (some v')).set j (some w')) H1) = D.nx ((σ.set i (some v)).set j (some w)) H1 := by
    intro v w H1
    refine propext ⟨?_, fun h => ⟨v, w, rfl, h⟩⟩
    rintro ⟨v', w', e, h⟩
    cases e
    exact h
  simp only [e]
  exact h
theorem psSetix {o i l : Expr} {p pos : Pos} {a b c : E} (ha : PE X o (wpE K Γ gv a)) (hb : PE X i (wpE K Γ gv b)) (hc : PE X l (wpE K Γ gv c)) (hl : isLc l = false) (hs : isSl i = false) : PS X (.Assign [.Subscript o i p] l pos) (wpS K Γ gv (.setix a b c)) := by
  refine ps_asg hc (pg_sub ha hb set_list ?_) (noswap hl (some (.Subscript o i p)) pos.line X.env) ?_ rfl
  · cases i <;> first | (simp [isSl] at hs; done) | exact fun _ => rfl
  · rfl
theorem augOk {o : Operator} (h : o = .Add ∨ o = .Sub) : PIp X o (augW o) := by
  intro pins s σ H x y v u Q I rx ry h'
  rcases h with rfl | rfl
  · cases x with
    | int i => cases y with
      | int j => exact ip_add pins s σ H _ _ v u Q I rx ry ⟨i, j, rfl, rfl, h'⟩
      | _ => exact h'.elim
    | _ => exact h'.elim
  · cases x with
    | int i => cases y with
      | int j => exact ip_sub pins s σ H _ _ v u Q I rx ry ⟨i, j, rfl, rfl, h'⟩
      | _ => exact h'.elim
    | _ => exact h'.elim
theorem psAug (C : Ctx CX K Γ gv N ft gt sg n sc X) {i : Nat} {x : Str} {px pos : Pos} {o : Operator} {l : Expr} {a : E} (h1 : N[i]? = some x) (h2 : locB sc x = true) (ho : o = .Add ∨ o = .Sub) (h : PE X l (wpE K Γ gv a)) : PS X (.AugAssign (.Name x px) o l pos) (wpS K Γ gv (.aug i o a)) := by
  have e : wpS K Γ gv (.aug i o a) = tAug i (wpE K Γ gv a) (augW o) := by
    funext D σ H
    simp only [wpS, tAug, atS_eq]
  rw [e]
  rcases locB_of h2 with q | q
  · exact ps_aug (by rw [C.hN]; exact C.nd) (by rw [C.hN]; exact h1) (.inl (C.loc x q)) h (augOk ho) (.inr (C.loc x q))
  · exact ps_aug (by rw [C.hN]; exact C.nd) (by rw [C.hN]; exact h1) (.inr (C.cel x q)) h (augOk ho) (.inl (C.fn x q))
mutual
theorem sS : ∀ (ir : S) (C : Ctx CX K Γ gv N ft gt sg n sc X) (e : Stmt), mS N ft gt sg n ir sc e = true → PS X e (wpS K Γ gv ir)
  | .expr a, C, e, h => by
    cases e <;> (simp only [mS, Bool.and_eq_true, Bool.not_eq_true', Bool.false_eq_true] at h)
    exact ps_expr (sE a C _ h.1) (noswap h.2 _ _ _)
  | .ret a, C, e, h => by
    cases e with
    | Return v p =>
      cases v <;> (simp only [mS, Bool.false_eq_true] at h)
      exact ps_ret (sE a C _ h)
    | _ => simp [mS] at h
  | .retN, C, e, h => by
    cases e with
    | Return v p =>
      cases v <;> (simp only [mS, Bool.false_eq_true] at h)
      exact ps_retN
    | _ => simp [mS] at h
  | .pass, C, e, h => by
    cases e <;> (simp only [mS, Bool.false_eq_true] at h)
    exact ps_pass
  | .brk, C, e, h => by
    cases e <;> (simp only [mS, Bool.false_eq_true] at h)
    exact ps_break
  | .cont, C, e, h => by
    cases e <;> (simp only [mS, Bool.false_eq_true] at h)
    exact ps_continue
  | .set i a, C, e, h => by
    cases e with
    | Assign ts v p =>
      match ts, h with
      | [.Name x px], h =>
        simp only [mS, Bool.and_eq_true, decide_eq_true_eq, Bool.not_eq_true', Bool.or_eq_true] at h
        exact psSet C h.1.1.1 h.1.1.2 (sE a C _ h.1.2) h.2
    | _ => simp [mS] at h
  | .setLc i own g one w c a, C, e, h => by
    cases e with
    | Assign ts v p =>
      match ts, v, h with
      | [.Name x px], .ListComp elt [⟨tg, iter, ifs, as⟩] sc' pos, h =>
        simp only [mS, mE, Bool.and_eq_true, decide_eq_true_eq, Bool.not_eq_true'] at h
        obtain ⟨⟨⟨⟨h1, h2⟩, h3⟩, h4⟩, ⟨⟨⟨⟨⟨rfl, h5⟩, h5t⟩, h6⟩, h7⟩, h8⟩, h9⟩ := h
        refine psSetLc C h1 h2 h3 h4 (sW w C tg _ h5 h5t) (nosetW h5 _) h6 h7 (fun C' => ?_) (fun C' => sE a C' _ h9)
        match ifs, h8 with
        | [], h4 =>
          rw [yes_of h4]
          exact pts_nil
        | [t], h4 => exact pts_one (sT c C' _ h4)
      | [.Name x px], .ListComp elt [] sc' pos, h => simp [mS, mE] at h
      | [.Name x px], .ListComp elt (_ :: _ :: _) sc' pos, h => simp [mS, mE] at h
    | _ => simp [mS] at h
  | .setLc2 i own vs1 g one w c g1 one1 w1 c1 a, C, e, h => by
    cases e with
    | Assign ts v p =>
      match ts, v, h with
      | [.Name x px], .ListComp elt [⟨tg, iter, ifs, as⟩, ⟨tg1, iter1, ifs1, as1⟩] sc' pos, h =>
        simp only [mS, mE, Bool.and_eq_true, decide_eq_true_eq, Bool.not_eq_true', List.all_eq_true] at h
        obtain ⟨⟨⟨⟨k1, k2⟩, k3⟩, k4⟩, ⟨⟨⟨⟨⟨⟨⟨⟨⟨⟨⟨rfl, rfl⟩, h1⟩, h1t⟩, h2⟩, h3⟩, h4⟩, h5⟩, h5t⟩, h6⟩, h7⟩, h8⟩, h9⟩ := h
        refine psSetLc2 C k1 k2 k3 k4 (sW w C tg _ h1 h1t) (nosetW h1 _) h2 h3 (fun C' => ?_) (fun C' => sW w1 C' tg1 _ h5 h5t) (fun env x => nosetW h5 env x) h6 (fun C' => ?_) h8 (fun C' => sE a C' _ h9)
        · match ifs, h4 with
          | [], h4 =>
            rw [yes_of h4]
            exact pts_nil
          | [t], h4 => exact pts_one (sT c C' _ h4)
        · match ifs1, h7 with
          | [], h7 =>
            rw [yes_of h7]
            exact pts_nil
          | [t], h7 => exact pts_one (sT c1 C' _ h7)
      | [.Name x px], .ListComp elt [] sc' pos, h => simp [mS, mE] at h
      | [.Name x px], .ListComp elt [_] sc' pos, h => simp [mS, mE] at h
      | [.Name x px], .ListComp elt (_ :: _ :: _ :: _) sc' pos, h => simp [mS, mE] at h
    | _ => simp [mS] at h
  | .setDc i pp own g one w a b, C, e, h => by
    cases e with
    | Assign ts v p =>
      match ts, v, h with
      | [.Name x px], .DictComp kx vx [⟨tg, iter, ifs, as⟩] sc' pos, h =>
        simp only [mS, mE, Bool.and_eq_true, decide_eq_true_eq, Bool.not_eq_true', List.isEmpty_iff] at h
        obtain ⟨⟨⟨⟨k1, k2⟩, k3⟩, k4⟩, ⟨⟨⟨⟨⟨⟨rfl, rfl⟩, h1⟩, h1t⟩, h2⟩, h3⟩, h4⟩, h5⟩ := h
        exact psSetDc C k1 k2 k3 k4 (sW w C tg _ h1 h1t) (nosetW h1 _) h2 h3 (fun C' => sE a C' _ h4) (fun C' => sE b C' _ h5)
      | [.Name x px], .DictComp kx vx [] sc' pos, h => simp [mS, mE] at h
      | [.Name x px], .DictComp kx vx (_ :: _ :: _) sc' pos, h => simp [mS, mE] at h
    | _ => simp [mS] at h
  | .setfld a f ys b, C, e, h => by
    cases e with
    | Assign ts v p =>
      match ts, h with
      | [.Attribute lo f' q], h =>
        rw [mS] at h
        obtain ⟨h, h4⟩ := Bool.and_eq_true_iff.mp h
        obtain ⟨h, h3⟩ := Bool.and_eq_true_iff.mp h
        obtain ⟨h, h2⟩ := Bool.and_eq_true_iff.mp h
        obtain ⟨h0, h1⟩ := Bool.and_eq_true_iff.mp h
        have e0 := of_decide_eq_true h0
        subst e0
        exact psSetfld C h1 (sE a C _ h2) (sE b C _ h3) (by simpa using h4)
    | _ => simp [mS] at h
  | .setT is a, C, e, h => by
    cases e with
    | Assign ts v p =>
      match ts, h with
      | [.Tuple es k q], h =>
        simp only [mS, Bool.and_eq_true, Bool.not_eq_true'] at h
        exact psSetT C h.1.1.1 (sE a C _ h.1.1.2) h.1.2 (by simpa using h.2)
    | _ => simp [mS] at h
  | .par i j a b, C, e, h => by
    cases e with
    | Assign ts v p =>
      match ts, v, h with
      | [.Tuple [.Name x px, .Name y py] kt pt], .Tuple [l, r] k2 pt2, h =>
        simp only [mS, Bool.and_eq_true, decide_eq_true_eq, Bool.not_eq_true'] at h
        obtain ⟨⟨⟨⟨⟨⟨⟨⟨⟨⟨h1, h2⟩, h3⟩, h4⟩, h5⟩, h6⟩, h7⟩, h8⟩, h9⟩, h10⟩, h11⟩ := h
        exact psPar C h1 h2 h3 h4 h5 h6 h7 h8 h9 h10 h11 (sE a C _ h10) (sE b C _ h11)
    | _ => simp [mS] at h
  | .dput pp o i a, C, e, h => by
    cases e with
    | Assign ts v p =>
      match ts, h with
      | [.Subscript lo li q], h =>
        simp only [mS, Bool.and_eq_true, Bool.not_eq_true'] at h
        exact psDput C (sE o C _ h.1.1.1.1) (sE i C _ h.1.1.1.2) (sE a C _ h.1.1.2) h.1.2 h.2
    | _ => simp [mS] at h
  | .setix o i a, C, e, h => by
    cases e with
    | Assign ts v p =>
      match ts, h with
      | [.Subscript lo li q], h =>
        simp only [mS, Bool.and_eq_true, Bool.not_eq_true'] at h
        exact psSetix (sE o C _ h.1.1.1.1) (sE i C _ h.1.1.1.2) (sE a C _ h.1.1.2) h.1.2 h.2
    | _ => simp [mS] at h
  | .aug i o a, C, e, h => by
    cases e with
    | AugAssign t o' v p =>
      match t, h with
      | .Name x px, h =>
        simp only [mS, Bool.and_eq_true, decide_eq_true_eq, Bool.or_eq_true] at h
        obtain ⟨⟨⟨⟨rfl, h1⟩, h2⟩, h3⟩, h4⟩ := h
        exact psAug C h2 h3 h1 (sE a C _ h4)
    | _ => simp [mS] at h
  | .ife c a b, C, e, h => by
    cases e <;> (simp only [mS, Bool.and_eq_true, Bool.false_eq_true] at h)
    exact ps_if (sT c C _ h.1.1) (sSs a C _ h.1.2) (sSs b C _ h.2)
  | .loop c b, C, e, h => by
    cases e with
    | While t l o p =>
      cases o <;> (simp only [mS, Bool.and_eq_true, Bool.false_eq_true] at h)
      exact ps_while C.own (sT c C _ h.1) (sSs b C _ h.2)
    | _ => simp [mS] at h
  | .for g one w b, C, e, h => by
    cases e with
    | For tg iter l o p =>
      cases o <;> (simp only [mS, Bool.and_eq_true, Bool.false_eq_true] at h)
      exact ps_for C.own C.calm (sW w C tg _ h.1.1.2 h.1.2) (pgG C h.1.1.1) (sSs b C _ h.2) (nosetW h.1.1.2 _)
    | _ => simp [mS] at h
  | .never, C, e, h => ps_never
theorem sSs : ∀ (ir : Ss) (C : Ctx CX K Γ gv N ft gt sg n sc X) (es : List Stmt), mSs N ft gt sg n ir sc es = true → PSs X es (wpSs K Γ gv ir)
  | .nil, C, es, h => by
    cases es with
    | nil => exact pss_nil
    | cons _ _ => simp [mSs] at h
  | .cons s ss, C, es, h => by
    cases es with
    | nil => simp [mSs] at h
    | cons l ls =>
      simp only [mSs, Bool.and_eq_true] at h
      exact pss_cons (sS s C _ h.1) (sSs ss C _ h.2)
end
end
end L2.IR
set_option Elab.async false
set_option linter.all false
set_option maxRecDepth 100000
set_option maxHeartbeats 4000000
namespace L2.IR
open PySem PySem.Spec PyProof.Rows
structure Md (P : Program) (w : World) (K : PySem.W.Frag) (mg : Str → Option Value) (base : Heap) (Γ : Nat → Sp) (gv : Nat → V) (ft gt : List Str) (sg : Sg) (n : Nat) : Prop where
  mgB : ∀ x ∈ biNames, mg x = none
  gvs : ∀ k x, gt[k]? = some x → ∃ u, mg x = some u ∧ RelV (gv k) u
  fns : ∀ k f, k < n → ft[k]? = some f → f ≠ "" → ∃ fa fd ps, FnOk P w K mg base CX0 (k + 1) fa fd ps (Γ k) ∧ mg f = some (.ref fa) ∧ PySem.W.keepIn K (.ref fa) = true ∧ Binds K fd ps []
  sgo : SgOk K mg sg
  mts : ∀ k x m, k < n → sg.mt[k]? = some (x, m) → x ∈ sg.cl → ∃ fa fd ps, FnOk P w K mg base CX0 (k + 1) fa fd ps (Γ k) ∧ Binds K fd ps [] ∧ Meth K (clsA K x) m fa
  ins : ∀ k x, k < n → (x, k) ∈ sg.ini → x ∈ sg.cl ∧ ∃ fa fd ps, FnOk P w K mg base CX0 (k + 1) fa fd ps (Γ k) ∧ Binds K fd ps [] ∧ Mk K (clsA K x) fa
section
variable {P : Program} {w : World} {K : PySem.W.Frag} {mg : Str → Option Value} {base : Heap} {Γ : Nat → Sp} {gv : Nat → V} {ft gt : List Str} {sg : Sg} {n : Nat}
abbrev ends (Q : VK) : Ends := { nx := fun _ H' => Q .non H', rt := Q }
theorem fn_ok (M : Md P w K mg base Γ gv ft gt sg n) {x qual : Str} {st : Stmt} {f : Addr} {fd : FuncData} {N ps : List Str} {ir : Ss} (F : Fun K x qual st f fd) (S : FnScope N ps (defScope st))
    (hm : mSs N ft gt sg n ir (defScope st) (defBody st) = true) (len : ∀ vs H Q E, Γ n vs H Q E → vs.length = ps.length)
    (hb : ∀ vs H Q E, Γ n vs H Q E → wpSs K Γ gv ir (ends Q) (start N vs) H) : FnOk P w K mg base CX0 (n + 1) f fd ps (Γ n) := by
  refine F.ok S len (fun cdv A outer s H vs Q E hr h => ⟨_, sSs (CX := CX0) ir ?_ _ hm, hb vs H Q E h⟩)
  exact {
    hK := rfl
    hN := rfl
    nd := S.nd
    kind := S.kind
    loc := fun _ h => h
    cel := fun _ h => h
    fre := fun _ h => .inr h
    glo := fun _ h => h
    calm := rfl
    fn := fun _ _ => rfl
    room := hr
    own := PassesOwn.never
    pas := pass0
    cx0 := fun _ _ _ _ _ h => h
    mgB := M.mgB
    fns := M.fns
    gvs := M.gvs
    sgo := M.sgo
    mts := M.mts
    ins := M.ins }
theorem Md.step (M : Md P w K mg base Γ gv ft gt sg n)
    (hf : ∀ f, ft[n]? = some f → f ≠ "" → ∃ fa fd ps, FnOk P w K mg base CX0 (n + 1) fa fd ps (Γ n) ∧ mg f = some (.ref fa) ∧ PySem.W.keepIn K (.ref fa) = true ∧ Binds K fd ps [])
    (hmt : ∀ x m, sg.mt[n]? = some (x, m) → x ∈ sg.cl → ∃ fa fd ps, FnOk P w K mg base CX0 (n + 1) fa fd ps (Γ n) ∧ Binds K fd ps [] ∧ Meth K (clsA K x) m fa)
    (hin : ∀ x, (x, n) ∈ sg.ini → x ∈ sg.cl ∧ ∃ fa fd ps, FnOk P w K mg base CX0 (n + 1) fa fd ps (Γ n) ∧ Binds K fd ps [] ∧ Mk K (clsA K x) fa) : Md P w K mg base Γ gv ft gt sg (n + 1) := by
  refine ⟨M.mgB, M.gvs, fun k g hk' hg hne => ?_, M.sgo, fun k x m hk' hx hc => ?_, fun k x hk' hx => ?_⟩
  · by_cases e : k < n
    · exact M.fns k g e hg hne
    · have e : k = n := by omega
      subst e
      exact hf g hg hne
  · by_cases e : k < n
    · exact M.mts k x m e hx hc
    · have e : k = n := by omega
      subst e
      exact hmt x m hx hc
  · by_cases e : k < n
    · exact M.ins k x e hx
    · have e : k = n := by omega
      subst e
      exact hin x hx
end
end L2.IR
set_option Elab.async false
set_option linter.all false
set_option maxRecDepth 100000
set_option maxHeartbeats 4000000
namespace L2.IR
open PySem PySem.Spec PyProof.Rows
def Bits (x : Int) : Prop := x = 0 ∨ x.natAbs.log2 < 1048576
theorem bits_of_lay {ns : List Int} (h : (PySem.W.WData.list (ns.map PySem.W.WData.int)).layable = true) : ∀ x ∈ ns, Bits x := by
  intro x hx
  have q := PySem.W.layableW_item h (.int x) (List.mem_map.mpr ⟨x, hx, rfl⟩)
  have w := (PySem.W.layableW_iff.mp q).2.2
  by_cases e : x = 0
  · exact .inl e
  · right
    have e2 : PySem.W.WData.weight (.int x) = x.natAbs.log2 + 1 := by
      simp only [PySem.W.WData.weight]
      rw [if_neg (by simpa using e)]
    rw [e2] at w
    have e3 : (2 : Nat) ^ 20 = 1048576 := by decide
    omega
theorem walkB {l : PySem.W.OpenLaw} {n k : Nat} {q : Program} {loose : List Str} {XP : (Str → Option Value) → Heap → Prop} {YP : World → Heap → Prop} {d : DefRec} {K : Params → PySem.W.Frag} {sp : PySem.W.Frag → Sp} {x : Str}
    (hn : l.most = some n) (hn2 : n ≤ sizeLine) (hdf : d.params.defaults = []) (hr : Room k callerA)
    (hY : ∀ (w : World) (h : Heap), YP w h → (K w.params).In h)
    (F : ∀ (w : World) (mg : Str → Option Value) (fa : Addr) (h : Heap), (K w.params).In h → h.Ns mainGlobals mg → mg d.name = some (.ref fa) →
      ∃ fd : FuncData, (∀ (s : Shared) (u : Value), BindsTo s fd ⟨[u], []⟩ [(x, u)]) ∧
        ∀ base : Heap, (K w.params).In base → base.Ns mainGlobals mg → FnOk l.prog w (K w.params) mg base CX0 k fa fd [x] (sp (K w.params)))
    (hsp : ∀ (K : PySem.W.Frag) (H : Hp) (a : Addr) (ns : List Int), ns.length ≤ n → (∀ x ∈ ns, Bits x) → SqL K H a (ns.map V.int) → sp K [.ref a] H (fun v _ => v = .bl true) fun _ _ _ => False) :
    PySem.W.WalkO q loose XP YP l.row.toRowW d [] (fun f vs => PySem.call f vs) := by
  intro w s₀ s₁ mg mb G Y fa o pm cd doc dV kV ho hd hcd hD hmg hg args vals as hpre hlay hrd hwl hlo
  obtain rfl : dV = .none := PySem.W.Dflts.none hD hdf
  obtain rfl : kV = .none := PySem.W.Dflts.noKw hD
  obtain ⟨a, vs, ns, rfl, rfl, hobj, hints, hlen⟩ := Att.script_of hn hpre hwl
  have hb := bits_of_lay (PySem.W.layableW_arg hlay _ List.mem_cons_self)
  have KX := hY w _ Y
  obtain ⟨fd, hbd, hF⟩ := F w mg fa _ KX G.T.g hmg
  refine PySem.W.enter_call (codeAny_mono (law_call KX G.T.g G.T.b G.T.builtins G.T.nolimit hg hobj hints (Nat.le_trans hlen hn2) hr hF hbd (fun H _ hS => hsp _ H a ns hlen hb hS) fun H e s' h => h) fun r s' hq => ?_)
  obtain ⟨rfl, h2, h3, h4⟩ := hq
  exact ⟨.inl ⟨.bool true, .bool true, [], rfl, fun _ => rfl, .bool true, Att.post_true l _, fun _ => ⟨List.Pairwise.nil, fun _ hm => (nomatch hm)⟩⟩, h2, h3, h4⟩
end L2.IR
set_option Elab.async false
set_option linter.all false
namespace Sd
abbrev Pt := Int × Int
abbrev Side := Pt × Pt
def rev (s : Side) : Side := (s.2, s.1)
def sround (c n : Int) : List Side :=
  [((n / c, n % c), (n / c, n % c + 1)), ((n / c, n % c + 1), (n / c + 1, n % c + 1)), ((n / c + 1, n % c + 1), (n / c + 1, n % c)), ((n / c + 1, n % c), (n / c, n % c))]
def allS (c : Int) (cs : List Int) : List Side := cs.flatMap (sround c)
def rim (c : Int) (cs : List Int) : List Side := (allS c cs).filter fun s => !decide (rev s ∈ allS c cs)
def Bal (l : List Side) : Prop := ∀ p : Pt, (l.map (·.1)).count p = (l.map (·.2)).count p
theorem bal_nil : Bal [] := fun _ => rfl
theorem bal_app {a b : List Side} (h1 : Bal a) (h2 : Bal b) : Bal (a ++ b) := fun p => by
  simp only [List.map_append, List.count_append]
  rw [h1 p, h2 p]
theorem bal_perm {l : List Side} (h : (l.map (·.1)).Perm (l.map (·.2))) : Bal l := fun p => h.count_eq p
theorem bal_round (c n : Int) : Bal (sround c n) := by
  apply bal_perm
  simp only [sround, List.map_cons, List.map_nil]
  refine List.Perm.trans (List.perm_append_comm (l₁ := [(n / c, n % c)]) (l₂ := [(n / c, n % c + 1), (n / c + 1, n % c + 1), (n / c + 1, n % c)])) ?_
  exact List.Perm.refl _
theorem bal_all (c : Int) : ∀ cs, Bal (allS c cs)
  | [] => bal_nil
  | n :: cs => by
    show Bal ((n :: cs).flatMap (sround c))
    rw [List.flatMap_cons]
    exact bal_app (bal_round c n) (bal_all c cs)
def cellOf (c : Int) (s : Side) : Int × Nat :=
  if s.1.1 = s.2.1 then (if s.1.2 < s.2.2 then (s.1.1 * c + s.1.2, 0) else ((s.1.1 - 1) * c + s.2.2, 2))
  else (if s.1.1 < s.2.1 then (s.1.1 * c + (s.1.2 - 1), 1) else (s.2.1 * c + s.1.2, 3))
theorem dm (c n : Int) : n / c * c + n % c = n := by rw [Int.mul_comm]; exact Int.mul_ediv_add_emod n c
theorem cellOf_round (c n : Int) : (sround c n).map (cellOf c) = [(n, 0), (n, 1), (n, 2), (n, 3)] := by
  simp only [sround, List.map_cons, List.map_nil, cellOf]
  have h1 : n % c < n % c + 1 := by omega
  have h2 : ¬ n % c + 1 < n % c := by omega
  have h3 : ¬ n / c = n / c + 1 := by omega
  have h4 : n / c < n / c + 1 := by omega
  have h5 : ¬ n / c + 1 = n / c := by omega
  have h6 : ¬ n / c + 1 < n / c := by omega
  have e1 : n / c * c + (n % c + 1 - 1) = n := by rw [Int.add_sub_cancel, dm]
  have e2 : (n / c + 1 - 1) * c + n % c = n := by rw [Int.add_sub_cancel, dm]
  simp [h1, h2, h3, h4, h5, h6, dm, e1, e2]
theorem nodup_of_map {α β : Type} (f : α → β) {l : List α} (h : (l.map f).Nodup) : l.Nodup := by
  induction l with
  | nil => exact List.nodup_nil
  | cons a l ih =>
    rw [List.map_cons, List.nodup_cons] at h
    rw [List.nodup_cons]
    exact ⟨fun z => h.1 (List.mem_map.mpr ⟨a, z, rfl⟩), ih h.2⟩
theorem nodup_all (c : Int) {cs : List Int} (h : cs.Nodup) : (allS c cs).Nodup := by
  apply nodup_of_map (cellOf c)
  have e : (allS c cs).map (cellOf c) = cs.flatMap fun n => [(n, 0), (n, 1), (n, 2), (n, 3)] := by
    unfold allS
    rw [List.map_flatMap]
    congr 1
    funext n
    exact cellOf_round c n
  rw [e]
  induction cs with
  | nil => exact List.nodup_nil
  | cons n cs ih =>
    rw [List.nodup_cons] at h
    rw [List.flatMap_cons, List.nodup_append]
    refine ⟨by simp, ih h.2 (by unfold allS; rw [List.map_flatMap]; congr 1; funext n; exact cellOf_round c n), fun a ha b hb e => ?_⟩
    subst e
    obtain ⟨m, hm, hb⟩ := List.mem_flatMap.mp hb
    have : a.1 = n := by simp at ha; rcases ha with rfl | rfl | rfl | rfl <;> rfl
    have : a.1 = m := by simp at hb; rcases hb with rfl | rfl | rfl | rfl <;> rfl
    have : n = m := by omega
    subst this
    exact h.1 hm
theorem rev_rev (s : Side) : rev (rev s) = s := rfl
theorem nodup_rev {l : List Side} (h : l.Nodup) : (l.map rev).Nodup := by
  apply nodup_of_map rev
  rw [List.map_map]
  have : rev ∘ rev = id := rfl
  rw [this, List.map_id]
  exact h
theorem perm_of_nodup {α : Type} [DecidableEq α] {a b : List α} (h1 : a.Nodup) (h2 : b.Nodup) (h : ∀ x, x ∈ a ↔ x ∈ b) : a.Perm b := by
  rw [List.perm_iff_count]
  intro x
  rw [List.Nodup.count h1, List.Nodup.count h2]
  by_cases z : x ∈ a
  · rw [if_pos z, if_pos ((h x).mp z)]
  · rw [if_neg z, if_neg (fun y => z ((h x).mpr y))]
theorem bal_both {l : List Side} (h : l.Nodup) : Bal (l.filter fun s => decide (rev s ∈ l)) := by
  apply bal_perm
  have p : ((l.filter fun s => decide (rev s ∈ l)).map rev).Perm (l.filter fun s => decide (rev s ∈ l)) := by
    apply perm_of_nodup (nodup_rev (h.filter _)) (h.filter _)
    intro x
    constructor
    · intro hx
      obtain ⟨y, hy, rfl⟩ := List.mem_map.mp hx
      obtain ⟨h1, h2⟩ := List.mem_filter.mp hy
      exact List.mem_filter.mpr ⟨of_decide_eq_true h2, decide_eq_true h1⟩
    · intro hx
      obtain ⟨h1, h2⟩ := List.mem_filter.mp hx
      exact List.mem_map.mpr ⟨rev x, List.mem_filter.mpr ⟨of_decide_eq_true h2, decide_eq_true h1⟩, rfl⟩
  have q := p.map (·.1)
  rw [List.map_map] at q
  exact q.symm
theorem bal_sub {l : List Side} {f : Side → Bool} (h : Bal l) (h1 : Bal (l.filter f)) : Bal (l.filter fun s => !f s) := fun p => by
  have e : ∀ (g : Side → Pt), (l.map g).count p = ((l.filter f).map g).count p + ((l.filter fun s => !f s).map g).count p := by
    intro g
    clear h h1
    induction l with
    | nil => rfl
    | cons a l ih =>
      rw [List.map_cons, List.count_cons, ih]
      cases hf : f a
      · simp only [List.filter_cons, hf, Bool.not_false, if_true, Bool.false_eq_true, if_false, List.map_cons, List.count_cons]
        omega
      · simp only [List.filter_cons, hf, Bool.not_true, if_true, Bool.false_eq_true, if_false, List.map_cons, List.count_cons]
        omega
  have a := e (·.1)
  have b := e (·.2)
  have := h p
  have := h1 p
  omega
theorem bal_rim (c : Int) {cs : List Int} (h : cs.Nodup) : Bal (rim c cs) := bal_sub (bal_all c cs) (bal_both (nodup_all c h))
theorem nodup_rim (c : Int) {cs : List Int} (h : cs.Nodup) : (rim c cs).Nodup := (nodup_all c h).filter _
end Sd
set_option Elab.async false
set_option linter.all false
namespace Sd
def plt (a b : Pt) : Bool := if a.1 = b.1 then decide (a.2 < b.2) else decide (a.1 < b.1)
def minP : List Pt → Pt
  | [] => (0, 0)
  | [a] => a
  | a :: b :: l => let m := minP (b :: l); if plt m a then m else a
theorem plt_ir (a : Pt) : plt a a = false := by simp [plt]
theorem plt_tot {a b : Pt} (h1 : plt a b = false) (h2 : plt b a = false) : a = b := by
  obtain ⟨x, y⟩ := a
  obtain ⟨u, v⟩ := b
  unfold plt at h1 h2
  by_cases e : x = u
  · subst e
    simp at h1 h2
    have : y = v := by omega
    rw [this]
  · have e' : ¬ u = x := fun z => e z.symm
    simp [e, e'] at h1 h2
    omega
theorem plt_neg {a b c : Pt} (h1 : plt a b = false) (h2 : plt b c = false) : plt a c = false := by
  obtain ⟨x, y⟩ := a
  obtain ⟨u, v⟩ := b
  obtain ⟨s, t⟩ := c
  unfold plt at *
  by_cases e : x = u
  · subst e
    by_cases e2 : x = s
    · subst e2; simp at *; omega
    · simp [e2] at *; omega
  · by_cases e2 : u = s
    · subst e2; simp [e] at *; omega
    · simp [e, e2] at h1 h2
      have e3 : ¬ x = s := by omega
      simp [e3]; omega
theorem plt_asym {a b : Pt} (h : plt a b = true) : plt b a = false := by
  obtain ⟨x, y⟩ := a
  obtain ⟨u, v⟩ := b
  unfold plt at *
  by_cases e : x = u
  · subst e; simp at *; omega
  · have e' : ¬ u = x := fun z => e z.symm
    simp [e, e'] at *; omega
theorem minP_spec : ∀ (l : List Pt), l ≠ [] → minP l ∈ l ∧ ∀ q ∈ l, plt q (minP l) = false
  | [], h => absurd rfl h
  | [a], _ => ⟨List.mem_singleton.mpr rfl, fun q hq => by rw [List.mem_singleton.mp hq]; exact plt_ir _⟩
  | a :: b :: l, _ => by
    obtain ⟨h1, h2⟩ := minP_spec (b :: l) (by simp)
    show (if plt (minP (b :: l)) a then minP (b :: l) else a) ∈ _ ∧ ∀ q ∈ _, plt q (if plt (minP (b :: l)) a then minP (b :: l) else a) = false
    cases hc : plt (minP (b :: l)) a with
    | true =>
      rw [if_pos rfl]
      refine ⟨List.mem_cons_of_mem _ h1, fun q hq => ?_⟩
      rcases List.mem_cons.mp hq with rfl | hq
      · exact plt_asym hc
      · exact h2 q hq
    | false =>
      rw [if_neg Bool.false_ne_true]
      refine ⟨List.mem_cons_self, fun q hq => ?_⟩
      rcases List.mem_cons.mp hq with rfl | hq
      · exact plt_ir _
      · exact plt_neg (h2 q hq) hc
theorem minP_only {l : List Pt} {p : Pt} (h : p ∈ l) (hm : ∀ q ∈ l, plt q p = false) : p = minP l := by
  obtain ⟨h1, h2⟩ := minP_spec l (fun z => by rw [z] at h; cases h)
  exact plt_tot (h2 p h) (hm _ h1)
def nx (l : List Side) (p : Pt) : Option Pt := (l.find? fun s => decide (s.1 = p)).map (·.2)
def walkL (l : List Side) (p0 : Pt) : Nat → Pt → List Pt → List Pt
  | 0, _, acc => acc
  | k + 1, p, acc => match nx l p with
    | some q => if q = p0 then acc else walkL l p0 k q (acc ++ [q])
    | none => acc
def ringL (l : List Side) : Option (List Pt) :=
  if (l.map (·.1)).Nodup then
    (let pts := walkL l (minP (l.map (·.1))) l.length (minP (l.map (·.1))) [minP (l.map (·.1))]
     if pts.length = l.length then some pts else none)
  else none
def ringPts (c : Int) (cs : List Int) : Option (List Pt) := ringL (rim c cs)
def isRing (c : Int) (cs : List Int) : Bool := (ringPts c cs).isSome
theorem nx_mem {l : List Side} {p q : Pt} (h : nx l p = some q) : (p, q) ∈ l := by
  unfold nx at h
  obtain ⟨s, h1, h2⟩ := Option.map_eq_some_iff.mp h
  have h3 := List.mem_of_find?_eq_some h1
  have h4 := List.find?_some h1
  simp at h4
  obtain ⟨a, b⟩ := s
  simp at h2 h4
  subst h2 h4
  exact h3
theorem nx_some {l : List Side} {p : Pt} (h : p ∈ l.map (·.1)) : ∃ q, nx l p = some q := by
  unfold nx
  obtain ⟨s, hs, e⟩ := List.mem_map.mp h
  cases hf : l.find? fun s => decide (s.1 = p) with
  | none =>
    have := List.find?_eq_none.mp hf s hs
    simp [e] at this
  | some t => exact ⟨t.2, rfl⟩
theorem end_start {l : List Side} (b : Bal l) {p q : Pt} (h : (p, q) ∈ l) : q ∈ l.map (·.1) := by
  have h1 : 0 < (l.map (·.2)).count q := List.count_pos_iff.mpr (List.mem_map.mpr ⟨_, h, rfl⟩)
  rw [← b q] at h1
  exact List.count_pos_iff.mp h1
theorem ends_nodup {l : List Side} (b : Bal l) (h : (l.map (·.1)).Nodup) : (l.map (·.2)).Nodup := by
  rw [List.nodup_iff_count]
  intro a
  rw [← b a]
  exact List.nodup_iff_count.mp h a
theorem snd_inj : ∀ {l : List Side}, (l.map (·.2)).Nodup → ∀ {p p' q : Pt}, (p, q) ∈ l → (p', q) ∈ l → p = p'
  | [], _, _, _, _, h, _ => by cases h
  | s :: l, hn, p, p', q, h1, h2 => by
    rw [List.map_cons, List.nodup_cons] at hn
    rcases List.mem_cons.mp h1 with e1 | h1
    · rcases List.mem_cons.mp h2 with e2 | h2
      · have := e1.trans e2.symm
        exact congrArg (·.1) this
      · exact absurd (List.mem_map.mpr ⟨_, h2, by rw [← e1]⟩) hn.1
    · rcases List.mem_cons.mp h2 with e2 | h2
      · exact absurd (List.mem_map.mpr ⟨_, h1, by rw [← e2]⟩) hn.1
      · exact snd_inj hn.2 h1 h2
structure Way (l : List Side) (p0 p : Pt) (pts : List Pt) : Prop where
  nd : pts.Nodup
  mem : ∀ x ∈ pts, x ∈ l.map (·.1)
  hd : pts.head? = some p0
  la : pts.getLast? = some p
  ch : ∀ i x y, pts[i]? = some x → pts[i + 1]? = some y → (x, y) ∈ l
theorem Way.one {l : List Side} {p0 : Pt} (h : p0 ∈ l.map (·.1)) : Way l p0 p0 [p0] :=
  ⟨by simp, fun x hx => by rw [List.mem_singleton.mp hx]; exact h, rfl, rfl, fun i x y h1 h2 => by simp at h2⟩
theorem nodup_le {α : Type} [DecidableEq α] : ∀ {a b : List α}, a.Nodup → (∀ x ∈ a, x ∈ b) → a.length ≤ b.length
  | [], _, _, _ => Nat.zero_le _
  | x :: a, b, h, m => by
    rw [List.nodup_cons] at h
    have hx := m x List.mem_cons_self
    have := nodup_le (a := a) (b := b.erase x) h.2 (fun y hy => (List.mem_erase_of_ne (fun (e : y = x) => h.1 (by rw [← e]; exact hy))).mpr (m y (List.mem_cons_of_mem _ hy)))
    rw [List.length_erase_of_mem hx] at this
    have : 0 < b.length := List.length_pos_of_mem hx
    rw [List.length_cons]
    omega
theorem Way.len {l : List Side} {p0 p : Pt} {pts : List Pt} (w : Way l p0 p pts) : pts.length ≤ l.length := by
  have := nodup_le w.nd w.mem
  rwa [List.length_map] at this
theorem Way.step {l : List Side} {p0 p : Pt} {pts : List Pt} (b : Bal l) (nd : (l.map (·.1)).Nodup) (w : Way l p0 p pts) :
    ∃ q, nx l p = some q ∧ (q = p0 → walkL l p0 (l.length + 1 - pts.length) p pts = pts) ∧
      (q ≠ p0 → Way l p0 q (pts ++ [q]) ∧ walkL l p0 (l.length + 1 - pts.length) p pts = walkL l p0 (l.length + 1 - (pts ++ [q]).length) q (pts ++ [q])) := by
  have hl := w.len
  have hp : p ∈ pts := List.mem_of_getLast? w.la
  obtain ⟨q, hq⟩ := nx_some (w.mem p hp)
  have hm := nx_mem hq
  have e : l.length + 1 - pts.length = (l.length - pts.length) + 1 := by omega
  refine ⟨q, hq, fun z => ?_, fun z => ⟨?_, ?_⟩⟩
  · rw [e]
    simp only [walkL, hq, z, if_true]
  · have hne : pts ≠ [] := fun z => by rw [z] at hp; cases hp
    have hnq : q ∉ pts := by
      intro hqm
      obtain ⟨j, hj, ej⟩ := List.getElem_of_mem hqm
      cases j with
      | zero =>
        have := w.hd
        rw [List.head?_eq_getElem?, List.getElem?_eq_getElem hj, ej] at this
        exact z (Option.some.inj this)
      | succ j =>
        have h1 : pts[j]? = some (pts[j]'(by omega)) := List.getElem?_eq_getElem _
        have h2 : pts[j + 1]? = some q := by rw [List.getElem?_eq_getElem hj, ej]
        have h3 := w.ch j _ _ h1 h2
        have h4 := snd_inj (ends_nodup b nd) h3 hm
        have h5 := w.la
        rw [List.getLast?_eq_getElem?] at h5
        have h6 : pts[j]? = pts[pts.length - 1]? := by rw [h1, h5, h4]
        have h7 := (List.getElem?_inj (by omega) w.nd).mp h6
        omega
    refine ⟨?_, fun x hx => ?_, ?_, by simp, fun i x y h1 h2 => ?_⟩
    · rw [List.nodup_append]
      exact ⟨w.nd, by simp, fun a ha b hb e => by rw [List.mem_singleton.mp hb] at e; exact hnq (e ▸ ha)⟩
    · rcases List.mem_append.mp hx with hx | hx
      · exact w.mem x hx
      · rw [List.mem_singleton.mp hx]; exact end_start b hm
    · rw [List.head?_append, w.hd]; rfl
    · by_cases hi : i + 1 < pts.length
      · rw [List.getElem?_append_left (by omega)] at h1
        rw [List.getElem?_append_left hi] at h2
        exact w.ch i x y h1 h2
      · have h3 : i + 1 < (pts ++ [q]).length := by
          obtain ⟨h, _⟩ := List.getElem?_eq_some_iff.mp h2
          exact h
        rw [List.length_append, List.length_singleton] at h3
        have hi' : i + 1 = pts.length := by omega
        rw [List.getElem?_append_left (by omega)] at h1
        rw [hi', List.getElem?_append_right (Nat.le_refl _)] at h2
        simp at h2
        have h5 := w.la
        rw [List.getLast?_eq_getElem?] at h5
        have : pts.length - 1 = i := by omega
        rw [this, h1] at h5
        cases h5
        rw [← h2]
        exact hm
  · rw [e]
    have e2 : l.length + 1 - (pts ++ [q]).length = l.length - pts.length := by rw [List.length_append, List.length_singleton]; omega
    rw [e2]
    simp only [walkL, hq, z, if_false]
theorem mem_all {c : Int} {cs : List Int} {s : Side} (h : s ∈ allS c cs) : ∃ n ∈ cs, s ∈ sround c n ∧ (cellOf c s).1 = n := by
  obtain ⟨n, hn, hs⟩ := List.mem_flatMap.mp h
  refine ⟨n, hn, hs, ?_⟩
  have z : cellOf c s ∈ (sround c n).map (cellOf c) := List.mem_map.mpr ⟨s, hs, rfl⟩
  rw [cellOf_round] at z
  simp at z
  rcases z with z | z | z | z <;> rw [z]
theorem rim_ne {c : Int} (hc : 0 < c) {n : Int} {cs : List Int} (hn : ∀ m ∈ n :: cs, n ≤ m) : rim c (n :: cs) ≠ [] := by
  intro z
  have h1 : ((n / c, n % c), (n / c, n % c + 1)) ∈ allS c (n :: cs) := by
    unfold allS
    rw [List.flatMap_cons]
    exact List.mem_append_left _ (by simp [sround])
  have h2 : ¬ rev ((n / c, n % c), (n / c, n % c + 1)) ∈ allS c (n :: cs) := by
    intro h
    obtain ⟨m, hm, _, e⟩ := mem_all h
    have := hn m hm
    have e2 : (cellOf c (rev ((n / c, n % c), (n / c, n % c + 1)))).1 = (n / c - 1) * c + n % c := by
      have h3 : ¬ n % c + 1 < n % c := by omega
      simp [rev, cellOf, h3]
    rw [e2] at e
    have e3 : (n / c - 1) * c + n % c = n - c := by rw [Int.sub_mul, Int.one_mul]; have := dm c n; omega
    omega
  have h4 : ((n / c, n % c), (n / c, n % c + 1)) ∈ rim c (n :: cs) := List.mem_filter.mpr ⟨h1, by simp [h2]⟩
  rw [z] at h4
  cases h4
end Sd
set_option Elab.async false
set_option linter.all false
set_option maxRecDepth 100000
set_option maxHeartbeats 4000000
namespace Sx
open PySem L2 L2.IR
def Ex (H H' : Hp) : Prop := ∀ b o, H b = some o → H' b = some o
theorem Ex.rfl {H : Hp} : Ex H H := fun _ _ h => h
theorem Ex.trans {H H1 H2 : Hp} (a : Ex H H1) (b : Ex H1 H2) : Ex H H2 := fun c o h => b c o (a c o h)
theorem Ex.free {H H' : Hp} (e : Ex H H') {l : Addr} (h : H' l = none) : H l = none := by
  cases q : H l with
  | none => exact Eq.refl _
  | some o =>
    rw [e l o q] at h
    cases h
theorem Ex.new {H : Hp} {p : Addr} {o : HO} (h : H p = none) : Ex H (upd H p o) := fun b u q => by
  rw [upd_ne (ne_of_none q h)]
  exact q
theorem Ex.put {H H' : Hp} {p : Addr} {o : HO} (e : Ex H H') (h : H p = none) : Ex H (upd H' p o) := fun b u q => by
  rw [upd_ne (ne_of_none q h)]
  exact e b u q
theorem Ex.seqL {K : PySem.W.Frag} {H H' : Hp} {a : Addr} {xs : List V} (e : Ex H H') (h : SqL K H a xs) : SqL K H' a xs := by
  rcases h with (h | ⟨o, h⟩) | h
  · exact .inl (.inl (e _ _ h))
  · exact .inl (.inr ⟨o, e _ _ h⟩)
  · exact .inr h
def iv (ns : List Int) : List V := ns.map V.int
structure Okg (r c : Int) : Prop where
  r1 : 1 ≤ r
  r6 : r ≤ 6
  c1 : 1 ≤ c
  c6 : c ≤ 6
structure Okc (m : Int) (cs : List Int) : Prop where
  ne : cs ≠ []
  up : cs.Pairwise (· < ·)
  lo : ∀ x ∈ cs, 0 ≤ x
  hi : ∀ x ∈ cs, x < m
def nb (r c n : Int) : List Int :=
  (if 0 < n / c then [n - c] else []) ++ (if 0 < n % c then [n - 1] else []) ++ (if n % c < c - 1 then [n + 1] else []) ++ (if n / c < r - 1 then [n + c] else [])
def G (H : Hp) (g : Addr) (r c : Int) : Prop := H g = some (.tup [.int r, .int c])
structure Rows (H H' : Hp) (D : Addr) (as : List Addr) (m : List (List Int)) : Prop where
  d0 : H D = none
  d : H' D = some (.lst (as.map V.ref))
  nd : as.Nodup
  nD : D ∉ as
  new : ∀ a ∈ as, H a = none
  len : as.length = m.length
  rows : ∀ (i : Nat) (a : Addr) (x : List Int), as[i]? = some a → m[i]? = some x → H' a = some (.lst (iv x))
open Sd (Pt Side)
def PtAt (H : Hp) (b : Addr) (p : Pt) : Prop := H b = some (.tup [.int p.1, .int p.2])
def SideAt (H : Hp) (a : Addr) (s : Side) : Prop := ∃ b1 b2, H a = some (.tup [.ref b1, .ref b2]) ∧ PtAt H b1 s.1 ∧ PtAt H b2 s.2
def ptK (p : Pt) : List Key := [.inl p.1, .inl p.2]
def sdK (s : Side) : List (List Key) := [ptK s.1, ptK s.2]
def LAt (H : Hp) (b : Addr) (x : List Int) : Prop := H b = some (.lst (iv x))
structure Ck (H : Hp) (a : Addr) (as : List Addr) (m : List (List Int)) : Prop where
  a : H a = some (.lst (as.map V.ref))
  r : Paired (LAt H) as m
structure Okm (r c : Int) (m : List (List Int)) : Prop where
  g : Okg r c
  nine : r * c ≤ 9
  len : (m.length : Int) = r
  row : ∀ x ∈ m, (x.length : Int) = c ∧ ∀ n ∈ x, -1 ≤ n ∧ n ≤ 4
def allT (n : Nat) : Nat → List (List Int)
  | 0 => []
  | i + 1 => [[(n : Int) - 1 - i]] ++ (allT n i).map (fun b => [(n : Int) - 1 - i] ++ b) ++ allT n i
def allC (n : Nat) : List (List Int) := allT n n
def ringsM (r c : Int) : List (List Int) := (allC (r * c).toNat).filter (Sd.isRing c)
section
def sp_is_number (K : PySem.W.Frag) : Sp := fun vs H Q _ => ∃ n, vs = [.int n] ∧ Q (.bl true) H
def sp_is_length (K : PySem.W.Frag) : Sp := fun vs H Q _ => ∃ n, vs = [.int n] ∧ Q (.bl (decide (1 ≤ n) && decide (n ≤ 6))) H
def sp_is_grid (K : PySem.W.Frag) : Sp := fun vs H Q _ => ∃ g r c, vs = [.ref g] ∧ G H g r c ∧ Okg r c ∧ Q (.bl true) H
def sp_check_grid (K : PySem.W.Frag) : Sp := fun vs H Q _ => ∃ g r c, vs = [.ref g] ∧ G H g r c ∧ Okg r c ∧ Q .non H
def sp_sides_round (K : PySem.W.Frag) : Sp := fun vs H Q _ => ∃ c n, vs = [.int c, .int n] ∧ 1 ≤ c ∧ c ≤ 6 ∧ ∀ p ts H', Ex H H' → H p = none → H' p = some (.lst (ts.map V.ref)) → Paired (SideAt H') ts (Sd.sround c n) → Q (.ref p) H'
def sp_rim_sides (K : PySem.W.Frag) : Sp := fun vs H Q _ => ∃ c p cs, vs = [.int c, .ref p] ∧ 1 ≤ c ∧ c ≤ 6 ∧ H p = some (.lst (iv cs)) ∧ cs.length ≤ 36 ∧ ∀ q ts H', Ex H H' → H q = none → H' q = some (.lst (ts.map V.ref)) → Paired (SideAt H') ts (Sd.rim c cs) → Q (.ref q) H'
def sp_ring_points (K : PySem.W.Frag) : Sp := fun vs H Q _ => ∃ g p r c cs, vs = [.ref g, .ref p] ∧ G H g r c ∧ Okg r c ∧ H p = some (.lst (iv cs)) ∧ Okc (r * c) cs ∧ (∀ H', Ex H H' → Sd.ringPts c cs = none → Q .non H') ∧
  ∀ q bs pts H', Ex H H' → H q = none → Sd.ringPts c cs = some pts → H' q = some (.lst (bs.map V.ref)) → Paired (PtAt H') bs pts → Q (.ref q) H'
def sp_is_one_ring (K : PySem.W.Frag) : Sp := fun vs H Q _ => ∃ g p r c cs, vs = [.ref g, .ref p] ∧ G H g r c ∧ Okg r c ∧ H p = some (.lst (iv cs)) ∧ Okc (r * c) cs ∧ ∀ H', Ex H H' → Q (.bl (Sd.isRing c cs)) H'
def sp_all_cells (K : PySem.W.Frag) : Sp := fun vs H Q _ => ∃ g r c, vs = [.ref g] ∧ G H g r c ∧ Okg r c ∧ r * c ≤ 9 ∧ ∀ D as H', Ex H H' → Rows H H' D as (allC (r * c).toNat) → Q (.ref D) H'
def sp_all_rings (K : PySem.W.Frag) : Sp := fun vs H Q _ => ∃ g r c, vs = [.ref g] ∧ G H g r c ∧ Okg r c ∧ r * c ≤ 9 ∧ ∀ D as H', Ex H H' → Rows H H' D as (ringsM r c) → Q (.ref D) H'
def Eb (p : Addr) (H H' : Hp) : Prop := ∀ b o, H b = some o → b ≠ p → H' b = some o
def sp_rings (K : PySem.W.Frag) : Sp := sp_all_rings K
end
end Sx
set_option Elab.async false
set_option linter.all false
namespace Sd
def und (s : Side) : Side := if plt s.1 s.2 = true then s else rev s
def fours (c n : Int) : List Side := [((n / c, n % c), (n / c, n % c + 1)), ((n / c + 1, n % c), (n / c + 1, n % c + 1)), ((n / c, n % c), (n / c + 1, n % c)), ((n / c, n % c + 1), (n / c + 1, n % c + 1))]
def allF (c : Int) (cs : List Int) : List Side := cs.flatMap (fours c)
def lawS (c : Int) (cs : List Int) : List Side := (allF c cs).filter fun s => decide ((allF c cs).count s = 1)
def nearL (l : List Side) (p : Pt) : List Pt := l.flatMap fun s => (if s.1 = p then [s.2] else []) ++ (if s.2 = p then [s.1] else [])
theorem fours_perm (c n : Int) : (fours c n).Perm ((sround c n).map und) := by
  have h1 : n % c < n % c + 1 := by omega
  have h2 : ¬ n % c + 1 < n % c := by omega
  have h3 : ¬ n / c = n / c + 1 := by omega
  have h4 : n / c < n / c + 1 := by omega
  have h5 : ¬ n / c + 1 = n / c := by omega
  have h6 : ¬ n / c + 1 < n / c := by omega
  have e : (sround c n).map und = [((n / c, n % c), (n / c, n % c + 1)), ((n / c, n % c + 1), (n / c + 1, n % c + 1)), ((n / c + 1, n % c), (n / c + 1, n % c + 1)), ((n / c, n % c), (n / c + 1, n % c))] := by
    simp [sround, und, plt, rev, h1, h2, h3, h4, h5, h6]
  rw [e]
  unfold fours
  refine .cons _ ?_
  exact (List.perm_append_comm (l₁ := [_, _]) (l₂ := [_]))
theorem allF_perm (c : Int) : ∀ cs : List Int, (allF c cs).Perm ((allS c cs).map und)
  | [] => .nil
  | n :: cs => by
    show (fours c n ++ allF c cs).Perm ((sround c n ++ allS c cs).map und)
    rw [List.map_append]
    exact (fours_perm c n).append (allF_perm c cs)
def Rt (s : Side) : Prop := plt s.1 s.2 = true ∨ plt s.2 s.1 = true
theorem sround_rt (c n : Int) : ∀ s ∈ sround c n, Rt s := by
  have h1 : n % c < n % c + 1 := by omega
  have h4 : n / c < n / c + 1 := by omega
  have h3 : ¬ n / c = n / c + 1 := by omega
  have h5 : ¬ n / c + 1 = n / c := by omega
  intro s hs
  simp only [sround, List.mem_cons, List.mem_nil_iff, or_false] at hs
  rcases hs with rfl | rfl | rfl | rfl <;> simp [Rt, plt, h1, h3, h4, h5]
theorem allS_rt {c : Int} {cs : List Int} {s : Side} (h : s ∈ allS c cs) : Rt s := by
  obtain ⟨n, _, h⟩ := List.mem_flatMap.mp h
  exact sround_rt c n s h
theorem und_yes {s : Side} (h : plt s.1 s.2 = true) : und s = s := if_pos h
theorem und_no {s : Side} (h : plt s.2 s.1 = true) : und s = rev s := if_neg (by rw [plt_asym h]; exact Bool.false_ne_true)
theorem und_rev {s : Side} (h : plt s.1 s.2 = true) : und (rev s) = s := by rw [und_no (s := rev s) h, rev_rev]
theorem und_plt {s : Side} (h : Rt s) : plt (und s).1 (und s).2 = true := by
  rcases h with h | h
  · rw [und_yes h]; exact h
  · rw [und_no h]; exact h
theorem und_iff {s u : Side} (hs : Rt s) (hu : plt u.1 u.2 = true) : und s = u ↔ s = u ∨ s = rev u := by
  constructor
  · intro e
    rcases hs with h | h
    · rw [und_yes h] at e; exact .inl e
    · rw [und_no h] at e; exact .inr (by rw [← e, rev_rev])
  · rintro (rfl | rfl)
    · exact und_yes hu
    · exact und_rev hu
theorem rev_ne {u : Side} (hu : plt u.1 u.2 = true) : u ≠ rev u := fun e => by
  have h1 : u.1 = u.2 := congrArg (·.1) e
  rw [h1, plt_ir] at hu
  cases hu
theorem count_und {u : Side} (hu : plt u.1 u.2 = true) : ∀ {l : List Side}, (∀ s ∈ l, Rt s) → (l.map und).count u = l.count u + l.count (rev u)
  | [], _ => rfl
  | s :: l, h => by
    have ih := count_und hu (l := l) fun t ht => h t (List.mem_cons_of_mem _ ht)
    have hi := und_iff (h s List.mem_cons_self) hu
    have ne := rev_ne hu
    rw [List.map_cons, List.count_cons, List.count_cons, List.count_cons, ih]
    by_cases e1 : s = u
    · subst e1
      have : und s = s := und_yes hu
      have e2 : (s == rev s) = false := beq_eq_false_iff_ne.mpr ne
      simp [this, e2]
      omega
    · by_cases e2 : s = rev u
      · subst e2
        have : und (rev u) = u := und_rev hu
        have e3 : (rev u == u) = false := beq_eq_false_iff_ne.mpr (Ne.symm ne)
        simp [this, e3]
        omega
      · have e3 : ¬ und s = u := fun z => (hi.mp z).elim e1 e2
        simp [e1, e2, e3]
theorem nodup_map_on {α β : Type} {f : α → β} : ∀ {l : List α}, l.Nodup → (∀ a ∈ l, ∀ b ∈ l, f a = f b → a = b) → (l.map f).Nodup
  | [], _, _ => List.nodup_nil
  | a :: l, h, hf => by
    rw [List.nodup_cons] at h
    rw [List.map_cons, List.nodup_cons]
    refine ⟨fun z => ?_, nodup_map_on h.2 fun x hx y hy => hf x (List.mem_cons_of_mem _ hx) y (List.mem_cons_of_mem _ hy)⟩
    obtain ⟨b, hb, e⟩ := List.mem_map.mp z
    have := hf b (List.mem_cons_of_mem _ hb) a List.mem_cons_self e
    exact h.1 (this ▸ hb)
theorem count01 {α : Type} [BEq α] [LawfulBEq α] {l : List α} (h : l.Nodup) (a : α) [Decidable (a ∈ l)] : l.count a = if a ∈ l then 1 else 0 := by
  by_cases z : a ∈ l
  · rw [if_pos z]
    have h1 := List.nodup_iff_count.mp h a
    have h2 : 0 < l.count a := List.count_pos_iff.mpr z
    omega
  · rw [if_neg z]
    exact List.count_eq_zero.mpr z
theorem mem_rim {c : Int} {cs : List Int} {s : Side} : s ∈ rim c cs ↔ s ∈ allS c cs ∧ rev s ∉ allS c cs := by
  unfold rim
  rw [List.mem_filter]
  simp
theorem lawS_perm {c : Int} {cs : List Int} (nd : cs.Nodup) : (lawS c cs).Perm ((rim c cs).map und) := by
  have ns := nodup_all c nd
  have cnt : ∀ u, plt u.1 u.2 = true → (allF c cs).count u = (if u ∈ allS c cs then 1 else 0) + (if rev u ∈ allS c cs then 1 else 0) := fun u hu => by
    rw [(allF_perm c cs).count_eq, count_und hu fun s hs => allS_rt hs, count01 ns, count01 ns]
  apply perm_of_nodup
  · rw [List.nodup_iff_count]
    intro a
    by_cases h : a ∈ lawS c cs
    · have := of_decide_eq_true (List.mem_filter.mp h).2
      unfold lawS
      exact Nat.le_trans (List.Sublist.count_le _ List.filter_sublist) (Nat.le_of_eq this)
    · rw [List.count_eq_zero.mpr h]; exact Nat.zero_le _
  · refine nodup_map_on (nodup_rim c nd) fun a ha b hb e => ?_
    obtain ⟨a1, a2⟩ := mem_rim.mp ha
    obtain ⟨b1, b2⟩ := mem_rim.mp hb
    have hb' := und_plt (allS_rt b1)
    rcases (und_iff (allS_rt a1) hb').mp e with h | h <;> rcases allS_rt b1 with hp | hp
    · rw [und_yes hp] at h; exact h
    · rw [und_no hp] at h; rw [h] at a1; exact absurd a1 b2
    · rw [und_yes hp] at h; rw [h] at a1; exact absurd a1 b2
    · rw [und_no hp, rev_rev] at h; exact h
  · intro u
    constructor
    · intro h
      obtain ⟨h1, h2⟩ := List.mem_filter.mp h
      have h2 := of_decide_eq_true h2
      obtain ⟨s, hs, e⟩ := List.mem_map.mp ((allF_perm c cs).mem_iff.mp h1)
      have hu : plt u.1 u.2 = true := by rw [← e]; exact und_plt (allS_rt hs)
      rw [cnt u hu] at h2
      by_cases z1 : u ∈ allS c cs
      · rw [if_pos z1] at h2
        have z2 : rev u ∉ allS c cs := fun z => by rw [if_pos z] at h2; omega
        exact List.mem_map.mpr ⟨u, mem_rim.mpr ⟨z1, z2⟩, und_yes hu⟩
      · rw [if_neg z1] at h2
        have z2 : rev u ∈ allS c cs := by
          by_cases z : rev u ∈ allS c cs
          · exact z
          · rw [if_neg z] at h2; omega
        exact List.mem_map.mpr ⟨rev u, mem_rim.mpr ⟨z2, by rw [rev_rev]; exact z1⟩, und_rev hu⟩
    · intro h
      obtain ⟨s, hs, e⟩ := List.mem_map.mp h
      obtain ⟨s1, s2⟩ := mem_rim.mp hs
      have hu : plt u.1 u.2 = true := by rw [← e]; exact und_plt (allS_rt s1)
      refine List.mem_filter.mpr ⟨(allF_perm c cs).mem_iff.mpr (List.mem_map.mpr ⟨s, s1, e⟩), ?_⟩
      rw [decide_eq_true_eq, cnt u hu]
      rcases (und_iff (allS_rt s1) hu).mp e with rfl | rfl
      · rw [if_pos s1, if_neg s2]
      · rw [rev_rev] at s2
        rw [if_neg s2, if_pos s1]
theorem lawS_len {c : Int} {cs : List Int} (nd : cs.Nodup) : (lawS c cs).length = (rim c cs).length := by
  rw [(lawS_perm nd).length_eq, List.length_map]
theorem near_perm {l m : List Side} (h : l.Perm m) (p : Pt) : (nearL l p).Perm (nearL m p) := h.flatMap_right _
theorem near_und (p : Pt) : ∀ l : List Side, (nearL (l.map und) p).Perm (nearL l p)
  | [] => .nil
  | s :: l => by
    show (((if (und s).1 = p then [(und s).2] else []) ++ (if (und s).2 = p then [(und s).1] else [])) ++ nearL (l.map und) p).Perm (((if s.1 = p then [s.2] else []) ++ (if s.2 = p then [s.1] else [])) ++ nearL l p)
    refine List.Perm.append ?_ (near_und p l)
    unfold und
    split
    · exact .refl _
    · exact List.perm_append_comm
theorem near_law {c : Int} {cs : List Int} (nd : cs.Nodup) (p : Pt) : (nearL (lawS c cs) p).Perm (nearL (rim c cs) p) := (near_perm (lawS_perm nd) p).trans (near_und p _)
theorem near_len (p : Pt) : ∀ l : List Side, (nearL l p).length = (l.map (·.1)).count p + (l.map (·.2)).count p
  | [] => rfl
  | s :: l => by
    show (((if s.1 = p then [s.2] else []) ++ (if s.2 = p then [s.1] else [])) ++ nearL l p).length = _
    rw [List.length_append, List.length_append, near_len p l, List.map_cons, List.map_cons, List.count_cons, List.count_cons]
    by_cases h1 : s.1 = p <;> by_cases h2 : s.2 = p <;> simp [h1, h2] <;> omega
theorem mem_near {l : List Side} {p q : Pt} : q ∈ nearL l p ↔ (p, q) ∈ l ∨ (q, p) ∈ l := by
  unfold nearL
  rw [List.mem_flatMap]
  constructor
  · rintro ⟨⟨a, b⟩, hs, h⟩
    rcases List.mem_append.mp h with h | h
    · by_cases e : a = p
      · simp [e] at h; subst h e; exact .inl hs
      · simp [e] at h
    · by_cases e : b = p
      · simp [e] at h; subst h e; exact .inr hs
      · simp [e] at h
  · rintro (h | h)
    · exact ⟨_, h, by simp⟩
    · exact ⟨_, h, by simp⟩
theorem near_two {l : List Side} (b : Bal l) : (∀ p ∈ l.map (·.1), (nearL l p).length = 2) ↔ (l.map (·.1)).Nodup := by
  have e : ∀ p, (nearL l p).length = 2 * (l.map (·.1)).count p := fun p => by rw [near_len, ← b p]; omega
  constructor
  · intro h
    rw [List.nodup_iff_count]
    intro p
    by_cases hp : p ∈ l.map (·.1)
    · have := h p hp
      rw [e] at this
      omega
    · rw [List.count_eq_zero.mpr hp]; exact Nat.zero_le _
  · intro h p hp
    rw [e, count01 h, if_pos hp]
structure Rnd (near : Pt → List Pt) (qs : List Pt) : Prop where
  nd : qs.Nodup
  two : 2 ≤ qs.length
  one : ∀ p q, qs[0]? = some p → qs[1]? = some q → (near p)[0]? = some q
  on : ∀ k x y, qs[k]? = some x → qs[k + 1]? = some y → ∃ z, (near y).filter (fun p => !decide (p = x)) = [z] ∧ (∀ w, qs[k + 2]? = some w → z = w) ∧ (qs[k + 2]? = none → qs[0]? = some z)
theorem two_perm {α : Type} {l : List α} {a b : α} (hl : l.length = 2) (ha : a ∈ l) (hb : b ∈ l) (ne : a ≠ b) : l = [a, b] ∨ l = [b, a] := by
  match l, hl with
  | [x, y], _ =>
    simp only [List.mem_cons, List.mem_nil_iff, or_false] at ha hb
    rcases ha with rfl | rfl <;> rcases hb with rfl | rfl
    · exact absurd rfl ne
    · exact .inl rfl
    · exact .inr rfl
    · exact absurd rfl ne
structure Cyc (l : List Side) (qs : List Pt) : Prop where
  nd : qs.Nodup
  ch : ∀ (i : Nat) x y, qs[i]? = some x → qs[i + 1]? = some y → (x, y) ∈ l
  back : ∀ x y, qs.getLast? = some x → qs[0]? = some y → (x, y) ∈ l
  two : 3 ≤ qs.length
theorem rest_of {near : Pt → List Pt} {x y z : Pt} (hl : (near y).length = 2) (hx : x ∈ near y) (hz : z ∈ near y) (ne : x ≠ z) : (near y).filter (fun p => !decide (p = x)) = [z] := by
  have ne' : ¬ z = x := fun e => ne e.symm
  rcases two_perm hl hx hz ne with h | h <;> rw [h] <;> simp [ne']
theorem Cyc.rnd {l : List Side} {near : Pt → List Pt} {qs : List Pt} (cy : Cyc l qs) (hl : ∀ p ∈ qs, (near p).length = 2) (hn : ∀ p q, (p, q) ∈ l → q ∈ near p ∧ p ∈ near q) (h0 : ∀ p q, qs[0]? = some p → qs[1]? = some q → (near p)[0]? = some q) : Rnd near qs := by
  refine ⟨cy.nd, by have := cy.two; omega, h0, fun k x y hx hy => ?_⟩
  have hk : k + 1 < qs.length := (List.getElem?_eq_some_iff.mp hy).1
  have hxy := hn _ _ (cy.ch k x y hx hy)
  by_cases h2 : k + 2 < qs.length
  · obtain ⟨z, hz⟩ : ∃ z, qs[k + 2]? = some z := ⟨qs[k + 2], List.getElem?_eq_getElem h2⟩
    have hyz := hn _ _ (cy.ch (k + 1) y z hy hz)
    refine ⟨z, rest_of (hl y (List.mem_of_getElem? hy)) hxy.2 hyz.1 (fun e => ?_), fun w hw => by rw [hz] at hw; exact Option.some.inj hw, fun hw => by rw [hz] at hw; cases hw⟩
    subst e
    have := (List.getElem?_inj (by omega) cy.nd).mp (hx.trans hz.symm)
    omega
  · obtain ⟨z, hz⟩ : ∃ z, qs[0]? = some z := ⟨qs[0]'(by omega), List.getElem?_eq_getElem _⟩
    have hlast : qs.getLast? = some y := by
      rw [List.getLast?_eq_getElem?]
      have : qs.length - 1 = k + 1 := by omega
      rw [this]
      exact hy
    have hyz := hn _ _ (cy.back y z hlast hz)
    refine ⟨z, rest_of (hl y (List.mem_of_getElem? hy)) hxy.2 hyz.1 (fun e => ?_), fun w hw => ?_, fun _ => hz⟩
    · subst e
      have := (List.getElem?_inj (by omega) cy.nd).mp (hx.trans hz.symm)
      have := cy.two
      omega
    · rw [List.getElem?_eq_none (by omega)] at hw
      cases hw
theorem nodup_rev' {α : Type} {l : List α} (h : l.Nodup) : l.reverse.Nodup := by
  unfold List.Nodup at *
  rw [List.pairwise_reverse]
  exact h.imp fun h e => h e.symm
theorem Cyc.flip {l : List Side} {p : Pt} {qs : List Pt} (cy : Cyc l (p :: qs)) : Cyc (l.map rev) (p :: qs.reverse) := by
  have hl : (p :: qs.reverse).length = (p :: qs).length := by simp
  have two := cy.two
  rw [List.length_cons] at two
  have at' : ∀ i x, (p :: qs.reverse)[i + 1]? = some x → ∃ j, i + j + 1 = qs.length ∧ (p :: qs)[j + 1]? = some x := fun i x h => by
    rw [List.getElem?_cons_succ] at h
    have hi := (List.getElem?_eq_some_iff.mp h).1
    rw [List.length_reverse] at hi
    refine ⟨qs.length - 1 - i, by omega, ?_⟩
    rw [List.getElem?_cons_succ, ← h, List.getElem?_reverse (by omega)]
  refine ⟨?_, fun i x y hx hy => ?_, fun x y hx hy => ?_, by rw [hl]; exact cy.two⟩
  · have := cy.nd
    rw [List.nodup_cons] at this ⊢
    exact ⟨fun z => this.1 (List.mem_reverse.mp z), nodup_rev' this.2⟩
  · obtain ⟨j, hj, hy'⟩ := at' i y hy
    cases i with
    | zero =>
      rw [List.getElem?_cons_zero] at hx
      cases hx
      have hlast : (p :: qs).getLast? = some y := by
        rw [List.getLast?_eq_getElem?, List.length_cons]
        have : qs.length + 1 - 1 = j + 1 := by omega
        rw [this]
        exact hy'
      exact List.mem_map.mpr ⟨_, cy.back y p hlast rfl, rfl⟩
    | succ i =>
      obtain ⟨j', hj', hx'⟩ := at' i x hx
      have : j' = j + 1 := by omega
      subst this
      exact List.mem_map.mpr ⟨_, cy.ch (j + 1) y x hy' hx', rfl⟩
  · rw [List.getElem?_cons_zero] at hy
    cases hy
    rw [List.getLast?_eq_getElem?, hl, List.length_cons] at hx
    have e : qs.length + 1 - 1 = (qs.length - 1) + 1 := by omega
    rw [e] at hx
    obtain ⟨j, hj, hx'⟩ := at' _ _ hx
    have : j = 0 := by omega
    subst this
    exact List.mem_map.mpr ⟨_, cy.ch 0 p x rfl hx', rfl⟩
theorem walk_ends {l : List Side} {p0 : Pt} (b : Bal l) (nd : (l.map (·.1)).Nodup) : ∀ (m : Nat) {p : Pt} {pts : List Pt}, Way l p0 p pts → l.length - pts.length = m →
    ∃ qs q, walkL l p0 (l.length + 1 - pts.length) p pts = qs ∧ Way l p0 q qs ∧ nx l q = some p0 := by
  intro m
  induction m with
  | zero =>
    intro p pts w hm
    obtain ⟨q, hq, h1, h2⟩ := w.step b nd
    by_cases e : q = p0
    · exact ⟨pts, p, h1 e, w, by rw [hq, e]⟩
    · have w2 := (h2 e).1.len
      rw [List.length_append, List.length_singleton] at w2
      have := w.len
      omega
  | succ m ih =>
    intro p pts w hm
    obtain ⟨q, hq, h1, h2⟩ := w.step b nd
    by_cases e : q = p0
    · exact ⟨pts, p, h1 e, w, by rw [hq, e]⟩
    · obtain ⟨w2, e2⟩ := h2 e
      obtain ⟨qs, r, h3, h4, h5⟩ := ih w2 (by rw [List.length_append, List.length_singleton]; omega)
      exact ⟨qs, r, by rw [e2]; exact h3, h4, h5⟩
theorem rim_norev {c : Int} {cs : List Int} {p q : Pt} (h1 : (p, q) ∈ rim c cs) (h2 : (q, p) ∈ rim c cs) : False := (mem_rim.mp h1).2 (mem_rim.mp h2).1
theorem rim_ne2 {c : Int} {cs : List Int} {p : Pt} (h : (p, p) ∈ rim c cs) : False := by
  rcases allS_rt (mem_rim.mp h).1 with z | z <;> (simp only [plt_ir] at z; cases z)
theorem law_round {c : Int} {cs : List Int} (ndc : cs.Nodup) (ne : rim c cs ≠ []) (nd : ((rim c cs).map (·.1)).Nodup) :
    ∃ qs, Rnd (nearL (lawS c cs)) qs ∧ qs[0]? = some (minP ((rim c cs).map (·.1))) ∧ isRing c cs = decide (qs.length = (lawS c cs).length) := by
  generalize hl : rim c cs = l at *
  have b : Bal l := by rw [← hl]; exact bal_rim c ndc
  have sne : l.map (·.1) ≠ [] := fun z => ne (List.map_eq_nil_iff.mp z)
  have hm := (minP_spec _ sne).1
  generalize hp0 : minP (l.map (·.1)) = p0 at *
  have w0 : Way l p0 p0 [p0] := Way.one hm
  obtain ⟨qs, q, e1, w, hq⟩ := walk_ends b nd _ w0 rfl
  have lw := w.len
  have hr : isRing c cs = decide (qs.length = (lawS c cs).length) := by
    rw [lawS_len ndc, hl]
    unfold isRing ringPts ringL
    rw [hl, if_pos nd, hp0]
    have e2 : l.length + 1 - [p0].length = l.length := by simp
    rw [e2] at e1
    rw [e1]
    by_cases z : qs.length = l.length
    · simp [z]
    · simp [z]
  have hd0 : qs[0]? = some p0 := by rw [← List.head?_eq_getElem?]; exact w.hd
  -- the way is a cycle
  have cy : Cyc l qs := by
    refine ⟨w.nd, w.ch, fun x y hx hy => ?_, ?_⟩
    · rw [w.la] at hx
      cases hx
      rw [hd0] at hy
      cases hy
      exact nx_mem hq
    · have hqm := nx_mem hq
      match hqs : qs, w, hd0 with
      | [], w, h => simp at h
      | [a], w, h =>
        have := w.la
        simp at this h
        subst this h
        rw [← hl] at hqm
        exact (rim_ne2 hqm).elim
      | [a, b], w, h =>
        have h1 := w.ch 0 a b rfl rfl
        have := w.la
        simp at this h
        subst this h
        rw [← hl] at hqm h1
        exact (rim_norev h1 hqm).elim
      | a :: b :: d :: r, _, _ => simp
  have hn : ∀ p q, (p, q) ∈ l → q ∈ nearL (lawS c cs) p ∧ p ∈ nearL (lawS c cs) q := fun p q h => by
    rw [← hl] at h
    exact ⟨(near_law ndc p).mem_iff.mpr (mem_near.mpr (.inl h)), (near_law ndc q).mem_iff.mpr (mem_near.mpr (.inr h))⟩
  have two : ∀ p ∈ qs, (nearL (lawS c cs) p).length = 2 := fun p hp => by
    rw [(near_law ndc p).length_eq, hl]
    exact (near_two b).mpr nd p (w.mem p hp)
  -- which way it goes
  match hqs : qs, cy with
  | [], cy => have := cy.two; simp at this
  | a :: tl, cy =>
    have ha : a = p0 := by simpa using hd0
    subst ha
    have l2 := two a List.mem_cons_self
    obtain ⟨q1, t2, htl⟩ : ∃ q1 t2, tl = q1 :: t2 := by
      cases tl with
      | nil => have := cy.two; simp at this
      | cons x y => exact ⟨x, y, rfl⟩
    by_cases z : (nearL (lawS c cs) a)[0]? = some q1
    · refine ⟨a :: tl, cy.rnd two hn fun p q h1 h2 => ?_, hd0, hr⟩
      rw [htl] at h2
      simp at h1 h2
      subst h1 h2
      exact z
    · have fl := cy.flip
      have two' : ∀ p ∈ a :: tl.reverse, (nearL (lawS c cs) p).length = 2 := fun p hp => two p (by
        rcases List.mem_cons.mp hp with rfl | hp
        · exact List.mem_cons_self
        · exact List.mem_cons_of_mem _ (List.mem_reverse.mp hp))
      have hn' : ∀ p q, (p, q) ∈ l.map rev → q ∈ nearL (lawS c cs) p ∧ p ∈ nearL (lawS c cs) q := fun p q h => by
        obtain ⟨⟨x, y⟩, h1, h2⟩ := List.mem_map.mp h
        cases h2
        exact (hn _ _ h1).symm
      refine ⟨a :: tl.reverse, fl.rnd two' hn' fun p q h1 h2 => ?_, rfl, by rw [hr]; simp⟩
      simp at h1
      subst h1
      have m1 : q1 ∈ nearL (lawS c cs) a := (hn _ _ (cy.ch 0 a q1 rfl (by rw [htl]; rfl))).1
      have m2 : q ∈ nearL (lawS c cs) a := (hn' _ _ (fl.ch 0 a q rfl h2)).1
      have neq : q1 ≠ q := fun e => by
        subst e
        rw [List.getElem?_cons_succ, List.getElem?_reverse (by rw [htl]; simp)] at h2
        have nd2 := cy.nd
        have i1 : (a :: tl)[1]? = some q1 := by rw [htl]; rfl
        have i2 : (a :: tl)[tl.length - 1 - 0 + 1]? = some q1 := by rw [List.getElem?_cons_succ]; exact h2
        have l3 := cy.two
        rw [List.length_cons] at l3
        have := (List.getElem?_inj (by rw [List.length_cons]; omega) nd2).mp (i1.trans i2.symm)
        omega
      rcases two_perm l2 m1 m2 neq with h | h
      · rw [h] at z
        exact absurd rfl z
      · rw [h]
        rfl
end Sd
set_option Elab.async false
set_option linter.all false
set_option maxRecDepth 100000
set_option maxHeartbeats 4000000
namespace Sx
open PySem L2 L2.IR
open Sd (Pt Side)
def sp_law_grid (K : PySem.W.Frag) : Sp := fun vs H Q _ => ∃ k m, vs = [.int k, .int m] ∧ 1 ≤ m ∧ ∀ g r c H', Ex H H' → H g = none → G H' g r c → Okg r c → r * c ≤ m → Q (.ref g) H'
def sp_law_sides (K : PySem.W.Frag) : Sp := fun vs H Q _ => ∃ g p r c cs, vs = [.ref g, .ref p] ∧ G H g r c ∧ Okg r c ∧ LAt H p cs ∧ cs.length ≤ 36 ∧ ∀ q ts H', Ex H H' → H q = none → H' q = some (.lst (ts.map V.ref)) → Paired (SideAt H') ts (Sd.lawS c cs) → Q (.ref q) H'
structure Nr (H : Hp) (kvs : List (List Key × V)) (E : List (Pt × Pt)) : Prop where
  key : ∃ ps : List Pt, kvs.map (·.1) = ps.map ptK ∧ ∀ p, p ∈ ps ↔ p ∈ E.map (·.1)
  val : ∀ p, p ∈ E.map (·.1) → ∃ b bs, valV kvs (ptK p) = some (.ref b) ∧ H b = some (.lst ((bs : List Addr).map V.ref)) ∧ Paired (PtAt H) bs ((E.filter fun e => decide (e.1 = p)).map (·.2))
  non : ∀ p, p ∉ E.map (·.1) → valV kvs (ptK p) = none
  one : ∀ p q b, valV kvs (ptK p) = some (.ref b) → valV kvs (ptK q) = some (.ref b) → p = q
  len : kvs.length ≤ E.length
def ends2 (l : List Side) : List (Pt × Pt) := l.flatMap fun s => [(s.1, s.2), (s.2, s.1)]
def sp_law_points (K : PySem.W.Frag) : Sp := fun vs H Q _ => ∃ p ts l, vs = [.ref p] ∧ H p = some (.lst ((ts : List Addr).map V.ref)) ∧ Paired (SideAt H) ts l ∧ l.length ≤ 144 ∧ ∀ N kvs H', Ex H H' → H N = none → H' N = some (.dT kvs) → Nr H' kvs (ends2 l) → Q (.ref N) H'
def sp_law_is_ring (K : PySem.W.Frag) : Sp := fun vs H Q _ => ∃ g p r c cs, vs = [.ref g, .ref p] ∧ G H g r c ∧ Okg r c ∧ LAt H p cs ∧ Okc (r * c) cs ∧ ∀ H', Ex H H' → Q (.bl (Sd.isRing c cs)) H'
end Sx
set_option Elab.async false
set_option linter.all false
set_option maxRecDepth 1000000
set_option maxHeartbeats 4000000
namespace Sx
def bitsL (m k : Nat) : List Int := ((List.range m).map Int.ofNat).filter fun x => decide ((k : Int) / 2 ^ x.toNat % 2 = 1)
def num (x : List Int) : Nat := x.foldr (fun a n => n + 2 ^ a.toNat) 0
def eqI : List Int → List Int → Bool
  | [], [] => true
  | a :: x, b :: y => (match a, b with | .ofNat m, .ofNat n => Nat.beq m n | _, _ => false) && eqI x y
  | _, _ => false
def ltI : List Int → List Int → Bool
  | [], [] => false
  | [], _ :: _ => true
  | _ :: _, [] => false
  | a :: x, b :: y => match a, b with | .ofNat m, .ofNat n => Nat.blt m n || (Nat.beq m n && ltI x y) | _, _ => false
def chk1 (m : Nat) : Bool := (allC m).all fun x => eqI (bitsL m (num x)) x && Nat.blt 0 (num x) && Nat.blt (num x) (2 ^ m)
def memN (k : Nat) : List Nat → Bool
  | [] => false
  | x :: l => Nat.beq x k || memN k l
def chk2 (m : Nat) : Bool := let A := (allC m).map num; (List.range' 1 (2 ^ m - 1)).all fun k => memN k A
def chain : List (List Int) → Bool
  | x :: y :: l => ltI x y && chain (y :: l)
  | _ => true
theorem t_one : ∀ m ∈ [1, 2, 3, 4, 5, 6, 7, 8, 9], chk1 m = true := by decide +kernel
theorem t_two : ∀ m ∈ [1, 2, 3, 4, 5, 6, 7, 8, 9], chk2 m = true := by decide +kernel
theorem t_up : ∀ m ∈ [1, 2, 3, 4, 5, 6, 7, 8, 9], chain (allC m) = true := by decide +kernel
theorem eqI_eq : ∀ {x y : List Int}, eqI x y = true → x = y
  | [], [], _ => rfl
  | .ofNat a :: x, .ofNat b :: y, h => by
    have h : (Nat.beq a b && eqI x y) = true := h
    rw [Bool.and_eq_true] at h
    rw [Nat.eq_of_beq_eq_true h.1, eqI_eq h.2]
  | .ofNat _ :: _, .negSucc _ :: _, h => by cases h
  | .negSucc _ :: _, .ofNat _ :: _, h => by cases h
  | .negSucc _ :: _, .negSucc _ :: _, h => by cases h
theorem ltI_lt : ∀ {x y : List Int}, ltI x y = true → x < y
  | [], [], h => by cases h
  | [], _ :: _, _ => List.nil_lt_cons _ _
  | .ofNat a :: x, .ofNat b :: y, h => by
    have h : (Nat.blt a b || (Nat.beq a b && ltI x y)) = true := h
    rw [Bool.or_eq_true, Bool.and_eq_true] at h
    rw [List.cons_lt_cons_iff]
    rcases h with h | ⟨h1, h2⟩
    · refine .inl ?_
      have : a + 1 ≤ b := Nat.le_of_ble_eq_true h
      exact Int.ofNat_lt.mpr this
    · exact .inr ⟨by rw [Nat.eq_of_beq_eq_true h1], ltI_lt h2⟩
  | .ofNat _ :: _, .negSucc _ :: _, h => by cases h
  | .negSucc _ :: _, .ofNat _ :: _, h => by cases h
  | .negSucc _ :: _, .negSucc _ :: _, h => by cases h
theorem memN_mem {k : Nat} : ∀ {l : List Nat}, memN k l = true → k ∈ l
  | x :: l, h => by
    have h : (Nat.beq x k || memN k l) = true := h
    rw [Bool.or_eq_true] at h
    rcases h with h | h
    · rw [Nat.eq_of_beq_eq_true h]
      exact List.mem_cons_self
    · exact List.mem_cons_of_mem _ (memN_mem h)
theorem chain_pw : ∀ {l : List (List Int)}, chain l = true → l.Pairwise (· < ·)
  | [], _ => .nil
  | [x], _ => List.pairwise_singleton _ _
  | x :: y :: l, h => by
    have h : (ltI x y && chain (y :: l)) = true := h
    rw [Bool.and_eq_true] at h
    have ih := chain_pw h.2
    have h1 := ltI_lt h.1
    refine .cons (fun z hz => ?_) ih
    rcases List.mem_cons.mp hz with rfl | hz
    · exact h1
    · rw [List.pairwise_cons] at ih
      exact List.lt_trans h1 (ih.1 z hz)
theorem nine_mem {m : Nat} (h1 : 1 ≤ m) (h9 : m ≤ 9) : m ∈ [1, 2, 3, 4, 5, 6, 7, 8, 9] := by
  simp only [List.mem_cons, List.not_mem_nil, or_false]
  omega
theorem allC_bits {m : Nat} (h1 : 1 ≤ m) (h9 : m ≤ 9) {x : List Int} (hx : x ∈ allC m) : bitsL m (num x) = x ∧ 1 ≤ num x ∧ num x < 2 ^ m := by
  have h := List.all_eq_true.mp (t_one m (nine_mem h1 h9)) x hx
  simp only [Bool.and_eq_true] at h
  exact ⟨eqI_eq h.1.1, Nat.le_of_ble_eq_true h.1.2, Nat.le_of_ble_eq_true h.2⟩
theorem bits_allC {m : Nat} (h1 : 1 ≤ m) (h9 : m ≤ 9) {k : Nat} (hk : k ∈ List.range' 1 (2 ^ m - 1)) : bitsL m k ∈ allC m ∧ num (bitsL m k) = k := by
  have h := memN_mem (List.all_eq_true.mp (t_two m (nine_mem h1 h9)) k hk)
  obtain ⟨x, hx, rfl⟩ := List.mem_map.mp h
  have e := (allC_bits h1 h9 hx).1
  rw [e]
  exact ⟨hx, rfl⟩
theorem sorted_ext : ∀ {l l' : List (List Int)}, l.Pairwise (· < ·) → l'.Pairwise (· < ·) → (∀ x, x ∈ l ↔ x ∈ l') → l = l'
  | [], [], _, _, _ => rfl
  | [], b :: l', _, _, h => nomatch (h b).mpr List.mem_cons_self
  | a :: l, [], _, _, h => nomatch (h a).mp List.mem_cons_self
  | a :: l, b :: l', p, p', h => by
    have e : a = b := by
      rcases List.mem_cons.mp ((h a).mp List.mem_cons_self) with e | ha
      · exact e
      rcases List.mem_cons.mp ((h b).mpr List.mem_cons_self) with e | hb
      · exact e.symm
      exact absurd (List.lt_trans ((List.pairwise_cons.mp p).1 b hb) ((List.pairwise_cons.mp p').1 a ha)) (List.lt_irrefl _)
    subst e
    rw [sorted_ext (List.pairwise_cons.mp p).2 (List.pairwise_cons.mp p').2 fun x => ?_]
    constructor
    · intro hx
      rcases List.mem_cons.mp ((h x).mp (List.mem_cons_of_mem _ hx)) with rfl | hy
      · exact absurd ((List.pairwise_cons.mp p).1 x hx) (List.lt_irrefl _)
      · exact hy
    · intro hx
      rcases List.mem_cons.mp ((h x).mpr (List.mem_cons_of_mem _ hx)) with rfl | hy
      · exact absurd ((List.pairwise_cons.mp p').1 x hx) (List.lt_irrefl _)
      · exact hy
theorem pw_filter {α : Type} {r : α → α → Prop} (p : α → Bool) {l : List α} (h : l.Pairwise r) : (l.filter p).Pairwise r := h.sublist List.filter_sublist
theorem sorted_rings {m : Nat} (h1 : 1 ≤ m) (h9 : m ≤ 9) (p : List Int → Bool) {zs : List (PySem.Addr × List Int)} (hp : (zs.map (·.2)).Perm (((List.range' 1 (2 ^ m - 1)).map (bitsL m)).filter p)) (up : PyProof.Rows.Sm.Up zs) : zs.map (·.2) = (allC m).filter p := by
  have nd : (((List.range' 1 (2 ^ m - 1)).map (bitsL m)).filter p).Nodup := by
    refine pw_filter p ?_
    refine List.pairwise_map.mpr ?_
    refine List.Pairwise.imp_of_mem ?_ (List.nodup_range' (s := 1) (n := 2 ^ m - 1))
    intro a b ha hb hab e
    apply hab
    rw [← (bits_allC h1 h9 ha).2, ← (bits_allC h1 h9 hb).2, e]
  have nz : (zs.map (·.2)).Nodup := hp.symm.nodup nd
  have pz : (zs.map (·.2)).Pairwise (· < ·) := by
    refine List.pairwise_iff_getElem.mpr fun i j hi hj hij => ?_
    have hi' : i < zs.length := by rw [List.length_map] at hi; exact hi
    have hj' : j < zs.length := by rw [List.length_map] at hj; exact hj
    have q := up i j hi' hj' (Nat.le_of_lt hij)
    have ne := (List.pairwise_iff_getElem.mp nz) i j hi hj hij
    rw [List.getElem_map, List.getElem_map] at ne ⊢
    exact Classical.byContradiction fun c => ne (List.le_antisymm (List.not_lt.mp q) (List.not_lt.mp c))
  refine sorted_ext pz (pw_filter p (chain_pw (t_up m (nine_mem h1 h9)))) fun x => ?_
  rw [hp.mem_iff, List.mem_filter, List.mem_filter]
  constructor
  · rintro ⟨hx, px⟩
    obtain ⟨k, hk, rfl⟩ := List.mem_map.mp hx
    exact ⟨(bits_allC h1 h9 hk).1, px⟩
  · rintro ⟨hx, px⟩
    obtain ⟨e, g1, g2⟩ := allC_bits h1 h9 hx
    refine ⟨List.mem_map.mpr ⟨num x, ?_, e⟩, px⟩
    rw [List.mem_range']
    exact ⟨num x - 1, by omega, by omega⟩
end Sx
set_option Elab.async false
set_option linter.all false
set_option maxRecDepth 100000
set_option maxHeartbeats 4000000
namespace Sx
open PySem L2 L2.IR
def sp_law (K : PySem.W.Frag) : Sp := fun vs H Q _ => ∃ s ns, vs = [.ref s] ∧ SqL K H s (iv ns) ∧ ns.length ≤ 63 ∧ ∀ H', Q (.bl true) H'
end Sx
set_option Elab.async false
set_option linter.all false
set_option maxRecDepth 100000
set_option maxHeartbeats 4000000
namespace Sx
open PySem L2 L2.IR
variable {K : PySem.W.Frag}
def dI (ns : List Int) : PyData := .list (ns.map .int)
def dM (m : List (List Int)) : PyData := .list (m.map dI)
theorem lay_I (ns : List Int) : PyData.canLayAll0 (ns.map PyData.int) = true := by
  induction ns with
  | nil => rfl
  | cons n ns ih => simpa [PyData.canLayAll0, PyData.canLay0] using ih
theorem dep_I (ns : List Int) : PyData.depthAll (ns.map PyData.int) = 0 := by
  induction ns with
  | nil => rfl
  | cons n ns ih => simp [PyData.depthAll, PyData.depth, ih]
theorem lay_M (m : List (List Int)) : PyData.canLayAll0 (m.map dI) = true := by
  induction m with
  | nil => rfl
  | cons n ns ih =>
    simp only [List.map_cons, PyData.canLayAll0, ih, Bool.and_true]
    simp [dI, PyData.canLay0, lay_I]
theorem dep_M (m : List (List Int)) : PyData.depthAll (m.map dI) ≤ 1 := by
  induction m with
  | nil => exact Nat.zero_le _
  | cons n ns ih =>
    simp only [List.map_cons, PyData.depthAll]
    have : (dI n).depth = 1 := by simp [dI, PyData.depth, dep_I]
    omega
theorem sh_M (m : List (List Int)) : SeqAt.shaped (dM m) = true := by
  have := dep_M m
  have h1 : (dM m).depth ≤ 64 := by
    show PyData.depthAll (m.map dI) + 1 ≤ 64
    omega
  have h2 : (dM m).canLay0 = true := lay_M m
  unfold SeqAt.shaped
  rw [h2, decide_eq_true h1]
  rfl
theorem dp_all (H : Hp) (ns : List Int) : DpAll K H (iv ns) (ns.map PyData.int) := by
  induction ns with
  | nil => exact .nil
  | cons n ns ih => exact .cons (.int n) ih
theorem dp_I {H : Hp} {a : Addr} {ns : List Int} (h : SqL K H a (iv ns)) : Dp K H (.ref a) (dI ns) := .lst h (dp_all H ns)
theorem dp_M {H : Hp} {D : Addr} : ∀ {as : List Addr} {m : List (List Int)}, as.length = m.length → (∀ (i : Nat) (a : Addr) (x : List Int), as[i]? = some a → m[i]? = some x → H a = some (.lst (iv x))) → DpAll K H (as.map V.ref) (m.map dI)
  | [], [], _, _ => .nil
  | a :: as, x :: m, hl, h => .cons (dp_I (SqL.of (h 0 a x rfl rfl))) (dp_M (D := D) (by simpa using hl) fun i b y h1 h2 => h (i + 1) b y (by simpa using h1) (by simpa using h2))
  | [], _ :: _, hl, _ => by simp at hl
  | _ :: _, [], hl, _ => by simp at hl
theorem Rows.dp {H H' : Hp} {D : Addr} {as : List Addr} {m : List (List Int)} (R : Rows H H' D as m) : Dp K H' (.ref D) (dM m) := .lst (SqL.of R.d) (dp_M (D := D) R.len R.rows)
theorem eqvAll_I : ∀ (x y : List Int), PyData.eqvAll (x.map PyData.int) (y.map PyData.int) = decide (x = y)
  | [], [] => by simp [PyData.eqvAll]
  | [], _ :: _ => by simp [PyData.eqvAll]
  | _ :: _, [] => by simp [PyData.eqvAll]
  | a :: x, b :: y => by
    have ih := eqvAll_I x y
    simp only [List.map_cons, PyData.eqvAll, ih, PyData.eqv]
    rw [Bool.eq_iff_iff]
    simp
theorem eqv_II (x y : List Int) : PyData.eqv (dI x) (dI y) = decide (x = y) := by
  show PyData.eqvAll (x.map PyData.int) (y.map PyData.int) = _
  exact eqvAll_I x y
theorem eqvAll_M : ∀ (x y : List (List Int)), PyData.eqvAll (x.map dI) (y.map dI) = decide (x = y)
  | [], [] => by simp [PyData.eqvAll]
  | [], _ :: _ => by simp [PyData.eqvAll]
  | _ :: _, [] => by simp [PyData.eqvAll]
  | a :: x, b :: y => by
    have ih := eqvAll_M x y
    simp only [List.map_cons, PyData.eqvAll, ih, eqv_II]
    rw [Bool.eq_iff_iff]
    simp
theorem eqv_MM (x y : List (List Int)) : PyData.eqv (dM x) (dM y) = decide (x = y) := by
  show PyData.eqvAll (x.map dI) (y.map dI) = _
  exact eqvAll_M x y
end Sx
set_option Elab.async false
set_option linter.all false
set_option maxRecDepth 100000
set_option maxHeartbeats 4000000
namespace Sx
open PySem L2 L2.IR
def top (i : Nat) : Stmt := PySem.Challenge.pw_sidering_k04_whole_rings.main.body.getD i (.Pass ⟨0, 0, 0, 0⟩)
def ft : List Str := ("is_number" :: "is_length" :: "is_grid" :: "check_grid" :: "sides_round" :: "rim_sides" :: "ring_points" :: "is_one_ring" :: "all_cells" :: "all_rings" :: "rings" :: "_law_grid" :: "_law_sides" :: "_law_points" :: "_law_is_ring" :: "law" :: [])
def gt : List Str := ["MOST_LINES", "MOST_CELLS"]
def gv (k : Nat) : V := [V.int (6), V.int (9)].getD k .non
def sg : Sg where
  mt := (("", "") :: ("", "") :: ("", "") :: ("", "") :: ("", "") :: ("", "") :: ("", "") :: ("", "") :: ("", "") :: ("", "") :: ("", "") :: ("", "") :: ("", "") :: ("", "") :: ("", "") :: ("", "") :: [])
  cl := []
  cs := ([])
  ini := []
  in0 := []
  fl := []
def Γ (K : PySem.W.Frag) (k : Nat) : Sp := ((sp_is_number K :: sp_is_length K :: sp_is_grid K :: sp_check_grid K :: sp_sides_round K :: sp_rim_sides K :: sp_ring_points K :: sp_is_one_ring K :: sp_all_cells K :: sp_all_rings K :: sp_rings K :: sp_law_grid K :: sp_law_sides K :: sp_law_points K :: sp_law_is_ring K :: sp_law K :: []) : List Sp).getD k (fun _ _ _ _ => False)
abbrev s_is_number : Stmt := top 5
def N_is_number : List Str := ["value"]
def ir_is_number : Ss :=
  (.cons (.ret (.and (.isi (.var 0) .int) (.not (.isi (.var 0) .bool))))
  .nil)
theorem sc_is_number : FnScope N_is_number ["value"] (defScope s_is_number) := ⟨rfl, rfl, rfl, by decide +kernel, rfl, by decide +kernel, by decide +kernel⟩
theorem m_is_number : mSs N_is_number ft gt sg 0 ir_is_number (defScope s_is_number) (defBody s_is_number) = true := by decide +kernel
abbrev s_is_length : Stmt := top 6
def N_is_length : List Str := ["value"]
def ir_is_length : Ss :=
  (.cons (.ret (.and (.call 0 (.cons (.var 0) .nil)) (.chain .LtE .LtE (.int 1) (.var 0) (.glob 0))))
  .nil)
theorem sc_is_length : FnScope N_is_length ["value"] (defScope s_is_length) := ⟨rfl, rfl, rfl, by decide +kernel, rfl, by decide +kernel, by decide +kernel⟩
theorem m_is_length : mSs N_is_length ft gt sg 1 ir_is_length (defScope s_is_length) (defBody s_is_length) = true := by decide +kernel
abbrev s_is_grid : Stmt := top 7
def N_is_grid : List Str := ["value"]
def ir_is_grid : Ss :=
  (.cons (.ret (.and (.isi (.var 0) .tuple) (.and (.cmp .Eq (.bi .len (.cons (.var 0) .nil)) (.int 2)) (.and (.call 1 (.cons (.ix (.var 0) (.int 0)) .nil)) (.call 1 (.cons (.ix (.var 0) (.int 1)) .nil))))))
  .nil)
theorem sc_is_grid : FnScope N_is_grid ["value"] (defScope s_is_grid) := ⟨rfl, rfl, rfl, by decide +kernel, rfl, by decide +kernel, by decide +kernel⟩
theorem m_is_grid : mSs N_is_grid ft gt sg 2 ir_is_grid (defScope s_is_grid) (defBody s_is_grid) = true := by decide +kernel
abbrev s_check_grid : Stmt := top 8
def N_check_grid : List Str := ["grid"]
def ir_check_grid : Ss :=
  (.cons (.ife (.not (.call 2 (.cons (.var 0) .nil))) (.cons .never
  .nil) .nil)
  .nil)
theorem sc_check_grid : FnScope N_check_grid ["grid"] (defScope s_check_grid) := ⟨rfl, rfl, rfl, by decide +kernel, rfl, by decide +kernel, by decide +kernel⟩
theorem m_check_grid : mSs N_check_grid ft gt sg 3 ir_check_grid (defScope s_check_grid) (defBody s_check_grid) = true := by decide +kernel
abbrev s_sides_round : Stmt := top 10
def N_sides_round : List Str := ["columns", "cell", "row", "column", "corners"]
def ir_sides_round : Ss :=
  (.cons (.setT [2, 3] (.bi .divmod (.cons (.var 1) (.cons (.var 0) .nil))))
  (.cons (.set 4 (.lst (.cons (.tup (.cons (.var 2) (.cons (.var 3) .nil))) (.cons (.tup (.cons (.var 2) (.cons (.op .Add (.var 3) (.int 1)) .nil))) (.cons (.tup (.cons (.op .Add (.var 2) (.int 1)) (.cons (.op .Add (.var 3) (.int 1)) .nil))) (.cons (.tup (.cons (.op .Add (.var 2) (.int 1)) (.cons (.var 3) .nil))) .nil))))))
  (.cons (.ret (.zipl (.var 4) (.op .Add (.slF (.var 4) (.int 1)) (.slT (.var 4) (.int 1)))))
  .nil)))
theorem sc_sides_round : FnScope N_sides_round ["columns", "cell"] (defScope s_sides_round) := ⟨rfl, rfl, rfl, by decide +kernel, rfl, by decide +kernel, by decide +kernel⟩
theorem m_sides_round : mSs N_sides_round ft gt sg 4 ir_sides_round (defScope s_sides_round) (defBody s_sides_round) = true := by decide +kernel
abbrev s_rim_sides : Stmt := top 11
def N_rim_sides : List Str := ["columns", "cells", "sides", "listed", "cell", "side", "end", "start"]
def ir_rim_sides : Ss :=
  (.cons (.setLc2 2 [4, 5] [5] [4] true (.list (.var 1)) (.bl true) [5] true (.list (.call 4 (.cons (.var 0) (.cons (.var 4) .nil)))) (.bl true) (.var 5))
  (.cons (.set 3 (.dc true [5] [5] true (.list (.var 2)) (.var 5) (.bl true)))
  (.cons (.ret (.lc [7, 6] [7, 6] false (.list (.var 2)) (.dmem true true (.tup (.cons (.var 6) (.cons (.var 7) .nil))) (.var 3)) (.tup (.cons (.var 7) (.cons (.var 6) .nil)))))
  .nil)))
theorem sc_rim_sides : FnScope N_rim_sides ["columns", "cells"] (defScope s_rim_sides) := ⟨rfl, rfl, rfl, by decide +kernel, rfl, by decide +kernel, by decide +kernel⟩
theorem m_rim_sides : mSs N_rim_sides ft gt sg 5 ir_rim_sides (defScope s_rim_sides) (defBody s_rim_sides) = true := by decide +kernel
abbrev s_ring_points : Stmt := top 12
def N_ring_points : List Str := ["grid", "cells", "sides", "onward", "points", "end", "start"]
def ir_ring_points : Ss :=
  (.cons (.set 2 (.call 5 (.cons (.ix (.var 0) (.int 1)) (.cons (.var 1) .nil))))
  (.cons (.setDc 3 false [6, 5] [6, 5] false (.list (.var 2)) (.var 6) (.var 5))
  (.cons (.ife (.cmp .Lt (.dlen false (.var 3)) (.bi .len (.cons (.var 2) .nil))) (.cons (.ret .non)
  .nil) .nil)
  (.cons (.set 4 (.lst (.cons (.mint (.dlist false (.var 3))) .nil)))
  (.cons (.loop (.cmp .NotEq (.dix false (.var 3) (.ix (.var 4) (.neg (.int 1)))) (.ix (.var 4) (.int 0))) (.cons (.expr (.app 4 (.dix false (.var 3) (.ix (.var 4) (.neg (.int 1))))))
  .nil))
  (.cons (.ret (.ife (.cmp .Eq (.bi .len (.cons (.var 4) .nil)) (.bi .len (.cons (.var 2) .nil))) (.var 4) .non))
  .nil))))))
theorem sc_ring_points : FnScope N_ring_points ["grid", "cells"] (defScope s_ring_points) := ⟨rfl, rfl, rfl, by decide +kernel, rfl, by decide +kernel, by decide +kernel⟩
theorem m_ring_points : mSs N_ring_points ft gt sg 6 ir_ring_points (defScope s_ring_points) (defBody s_ring_points) = true := by decide +kernel
abbrev s_is_one_ring : Stmt := top 13
def N_is_one_ring : List Str := ["grid", "cells"]
def ir_is_one_ring : Ss :=
  (.cons (.ret (.cmp .IsNot (.call 6 (.cons (.var 0) (.cons (.var 1) .nil))) .non))
  .nil)
theorem sc_is_one_ring : FnScope N_is_one_ring ["grid", "cells"] (defScope s_is_one_ring) := ⟨rfl, rfl, rfl, by decide +kernel, rfl, by decide +kernel, by decide +kernel⟩
theorem m_is_one_ring : mSs N_is_one_ring ft gt sg 7 ir_is_one_ring (defScope s_is_one_ring) (defBody s_is_one_ring) = true := by decide +kernel
abbrev s_all_cells : Stmt := top 16
def N_all_cells : List Str := ["grid", "rows", "columns", "listed", "cell", "behind"]
def ir_all_cells : Ss :=
  (.cons (.setT [1, 2] (.var 0))
  (.cons (.set 3 (.lst .nil))
  (.cons (.for [4] true (.revr (.op .Mult (.var 1) (.var 2))) (.cons (.set 3 (.op .Add (.op .Add (.lst (.cons (.lst (.cons (.var 4) .nil)) .nil)) (.lc [5] [5] true (.list (.var 3)) (.bl true) (.op .Add (.lst (.cons (.var 4) .nil)) (.var 5)))) (.var 3)))
  .nil))
  (.cons (.ret (.var 3))
  .nil))))
theorem sc_all_cells : FnScope N_all_cells ["grid"] (defScope s_all_cells) := ⟨rfl, rfl, rfl, by decide +kernel, rfl, by decide +kernel, by decide +kernel⟩
theorem m_all_cells : mSs N_all_cells ft gt sg 8 ir_all_cells (defScope s_all_cells) (defBody s_all_cells) = true := by decide +kernel
abbrev s_all_rings : Stmt := top 17
def N_all_rings : List Str := ["grid", "cells"]
def ir_all_rings : Ss :=
  (.cons (.ret (.lc [1] [1] true (.list (.call 8 (.cons (.var 0) .nil))) (.call 7 (.cons (.var 0) (.cons (.var 1) .nil))) (.var 1)))
  .nil)
theorem sc_all_rings : FnScope N_all_rings ["grid"] (defScope s_all_rings) := ⟨rfl, rfl, rfl, by decide +kernel, rfl, by decide +kernel, by decide +kernel⟩
theorem m_all_rings : mSs N_all_rings ft gt sg 9 ir_all_rings (defScope s_all_rings) (defBody s_all_rings) = true := by decide +kernel
abbrev s_rings : Stmt := top 19
def N_rings : List Str := ["grid"]
def ir_rings : Ss :=
  (.cons (.expr (.call 3 (.cons (.var 0) .nil)))
  (.cons (.ife (.cmp .Gt (.op .Mult (.ix (.var 0) (.int 0)) (.ix (.var 0) (.int 1))) (.glob 1)) (.cons .never
  .nil) .nil)
  (.cons (.ret (.call 9 (.cons (.var 0) .nil)))
  .nil)))
theorem sc_rings : FnScope N_rings ["grid"] (defScope s_rings) := ⟨rfl, rfl, rfl, by decide +kernel, rfl, by decide +kernel, by decide +kernel⟩
theorem m_rings : mSs N_rings ft gt sg 10 ir_rings (defScope s_rings) (defBody s_rings) = true := by decide +kernel
abbrev s_law_grid : Stmt := top 21
def N_law_grid : List Str := ["_law_number", "_law_most", "_law_high", "_law_wide"]
def ir_law_grid : Ss :=
  (.cons (.par 2 3 (.op .Add (.int 1) (.op .Mod (.var 0) (.int 6))) (.op .Add (.int 1) (.op .Mod (.op .FloorDiv (.var 0) (.int 6)) (.int 6))))
  (.cons (.loop (.cmp .Gt (.op .Mult (.var 2) (.var 3)) (.var 1)) (.cons (.setT [2, 3] (.ife (.cmp .Gt (.var 2) (.var 3)) (.tup (.cons (.op .Sub (.var 2) (.int 1)) (.cons (.var 3) .nil))) (.tup (.cons (.var 2) (.cons (.op .Sub (.var 3) (.int 1)) .nil)))))
  .nil))
  (.cons (.ret (.tup (.cons (.var 2) (.cons (.var 3) .nil))))
  .nil)))
theorem sc_law_grid : FnScope N_law_grid ["_law_number", "_law_most"] (defScope s_law_grid) := ⟨rfl, rfl, rfl, by decide +kernel, rfl, by decide +kernel, by decide +kernel⟩
theorem m_law_grid : mSs N_law_grid ft gt sg 11 ir_law_grid (defScope s_law_grid) (defBody s_law_grid) = true := by decide +kernel
abbrev s_law_sides : Stmt := top 22
def N_law_sides : List Str := ["_law_grid_here", "_law_cells", "_law_found", "_law_cell", "_law_row", "_law_at", "_law_four", "_law_side"]
def ir_law_sides : Ss :=
  (.cons (.set 2 (.dnew true))
  (.cons (.for [3] true (.list (.var 1)) (.cons (.par 4 5 (.op .FloorDiv (.var 3) (.ix (.var 0) (.int 1))) (.op .Mod (.var 3) (.ix (.var 0) (.int 1))))
  (.cons (.set 6 (.lst (.cons (.tup (.cons (.tup (.cons (.var 4) (.cons (.var 5) .nil))) (.cons (.tup (.cons (.var 4) (.cons (.op .Add (.var 5) (.int 1)) .nil))) .nil))) (.cons (.tup (.cons (.tup (.cons (.op .Add (.var 4) (.int 1)) (.cons (.var 5) .nil))) (.cons (.tup (.cons (.op .Add (.var 4) (.int 1)) (.cons (.op .Add (.var 5) (.int 1)) .nil))) .nil))) .nil))))
  (.cons (.for [7] true (.list (.op .Add (.var 6) (.lst (.cons (.tup (.cons (.tup (.cons (.var 4) (.cons (.var 5) .nil))) (.cons (.tup (.cons (.op .Add (.var 4) (.int 1)) (.cons (.var 5) .nil))) .nil))) (.cons (.tup (.cons (.tup (.cons (.var 4) (.cons (.op .Add (.var 5) (.int 1)) .nil))) (.cons (.tup (.cons (.op .Add (.var 4) (.int 1)) (.cons (.op .Add (.var 5) (.int 1)) .nil))) .nil))) .nil))))) (.cons (.dput true (.var 2) (.var 7) (.op .Add (.dget true (.var 2) (.var 7) (.int 0)) (.int 1)))
  .nil))
  .nil))))
  (.cons (.ret (.lock (.lc [7] [7] true (.dict true (.var 2)) (.cmp .Eq (.dix true (.var 2) (.var 7)) (.int 1)) (.var 7))))
  .nil)))
theorem sc_law_sides : FnScope N_law_sides ["_law_grid_here", "_law_cells"] (defScope s_law_sides) := ⟨rfl, rfl, rfl, by decide +kernel, rfl, by decide +kernel, by decide +kernel⟩
theorem m_law_sides : mSs N_law_sides ft gt sg 12 ir_law_sides (defScope s_law_sides) (defBody s_law_sides) = true := by decide +kernel
abbrev s_law_points : Stmt := top 23
def N_law_points : List Str := ["_law_sides_here", "_law_found", "_law_one", "_law_other"]
def ir_law_points : Ss :=
  (.cons (.set 1 (.dnew false))
  (.cons (.for [2, 3] false (.list (.var 0)) (.cons (.expr (.appE (.sdef false (.var 1) (.var 2) (.lst .nil)) (.var 3)))
  (.cons (.expr (.appE (.sdef false (.var 1) (.var 3) (.lst .nil)) (.var 2)))
  .nil)))
  (.cons (.ret (.var 1))
  .nil)))
theorem sc_law_points : FnScope N_law_points ["_law_sides_here"] (defScope s_law_points) := ⟨rfl, rfl, rfl, by decide +kernel, rfl, by decide +kernel, by decide +kernel⟩
theorem m_law_points : mSs N_law_points ft gt sg 13 ir_law_points (defScope s_law_points) (defBody s_law_points) = true := by decide +kernel
abbrev s_law_is_ring : Stmt := top 24
def N_law_is_ring : List Str := ["_law_grid_here", "_law_cells", "_law_sides_here", "_law_near", "_law_first", "_law_ahead", "_law_here", "_law_steps", "_law_rest", "_law_point"]
def ir_law_is_ring : Ss :=
  (.cons (.set 2 (.call 12 (.cons (.var 0) (.cons (.var 1) .nil))))
  (.cons (.set 3 (.call 13 (.cons (.var 2) .nil)))
  (.cons (.ife (.bi .any (.cons (.lc [9] [9] true (.list (.sortT (.dlist false (.var 3)))) (.bl true) (.cmp .NotEq (.bi .len (.cons (.dix false (.var 3) (.var 9)) .nil)) (.int 2))) .nil)) (.cons (.ret (.bl false))
  .nil) .nil)
  (.cons (.set 4 (.mint (.dlist false (.var 3))))
  (.cons (.setT [5, 6, 7] (.tup (.cons (.var 4) (.cons (.ix (.dix false (.var 3) (.var 4)) (.int 0)) (.cons (.int 1) .nil)))))
  (.cons (.loop (.cmp .NotEq (.var 6) (.var 4)) (.cons (.setLc 8 [9] [9] true (.list (.dix false (.var 3) (.var 6))) (.cmp .NotEq (.var 9) (.var 5)) (.var 9))
  (.cons (.setT [5, 6, 7] (.tup (.cons (.var 6) (.cons (.ix (.var 8) (.int 0)) (.cons (.op .Add (.var 7) (.int 1)) .nil)))))
  .nil)))
  (.cons (.ret (.cmp .Eq (.var 7) (.bi .len (.cons (.var 2) .nil))))
  .nil)))))))
theorem sc_law_is_ring : FnScope N_law_is_ring ["_law_grid_here", "_law_cells"] (defScope s_law_is_ring) := ⟨rfl, rfl, rfl, by decide +kernel, rfl, by decide +kernel, by decide +kernel⟩
theorem m_law_is_ring : mSs N_law_is_ring ft gt sg 14 ir_law_is_ring (defScope s_law_is_ring) (defBody s_law_is_ring) = true := by decide +kernel
abbrev s_law : Stmt := top 25
def N_law : List Str := ["_law_script", "_law_whole", "_law_grid_here", "_law_many", "_law_due", "_law_number", "_law_cells", "_law_again", "_law_found", "_law_cell"]
def ir_law : Ss :=
  (.cons (.set 1 (.bi .sum (.cons (.slT (.var 0) (.int 63)) .nil)))
  (.cons (.set 2 (.ife (.cmp .Eq (.op .Mod (.var 1) (.int 64)) (.int 5)) (.tup (.cons (.int 3) (.cons (.int 3) .nil))) (.call 11 (.cons (.var 1) (.cons (.int 6) .nil)))))
  (.cons (.par 3 4 (.op .Mult (.ix (.var 2) (.int 0)) (.ix (.var 2) (.int 1))) (.lst .nil))
  (.cons (.for [5] true (.rng2 (.int 1) (.op .LShift (.int 1) (.var 3))) (.cons (.setLc 6 [9] [9] true (.rng1 (.var 3)) (.cmp .Eq (.op .Mod (.op .RShift (.var 5) (.var 9)) (.int 2)) (.int 1)) (.var 9))
  (.cons (.ife (.call 14 (.cons (.var 2) (.cons (.var 6) .nil))) (.cons (.expr (.app 4 (.var 6)))
  .nil) .nil)
  .nil)))
  (.cons (.set 4 (.sortT (.var 4)))
  (.cons (.for [7] true (.rng1 (.int 2)) (.cons (.set 8 (.call 10 (.cons (.var 2) .nil)))
  (.cons (.ife (.or (.not (.isi (.var 8) .list)) (.or (.cmp .NotEq (.var 8) (.var 4)) (.not (.bi .all (.cons (.lc [6] [6] true (.list (.var 8)) (.bl true) (.isi (.var 6) .list)) .nil))))) (.cons (.ret (.bl false))
  .nil) .nil)
  (.cons (.for [6] true (.list (.var 8)) (.cons (.expr (.app 6 (.int 0)))
  .nil))
  (.cons (.expr (.app 8 (.lst .nil)))
  .nil)))))
  (.cons (.ret (.and (.cmp .Eq (.call 10 (.cons (.tup (.cons (.int 1) (.cons (.int 2) .nil))) .nil)) (.lst (.cons (.lst (.cons (.int 0) .nil)) (.cons (.lst (.cons (.int 0) (.cons (.int 1) .nil))) (.cons (.lst (.cons (.int 1) .nil)) .nil))))) (.cmp .Eq (.bi .len (.cons (.call 10 (.cons (.tup (.cons (.int 2) (.cons (.int 2) .nil))) .nil)) .nil)) (.int 13))))
  .nil)))))))
theorem sc_law : FnScope N_law ["_law_script"] (defScope s_law) := ⟨rfl, rfl, rfl, by decide +kernel, rfl, by decide +kernel, by decide +kernel⟩
theorem m_law : mSs N_law ft gt sg 15 ir_law (defScope s_law) (defBody s_law) = true := by decide +kernel
end Sx
set_option Elab.async false
set_option linter.all false
set_option maxRecDepth 100000
set_option maxHeartbeats 4000000
namespace Sx
open PySem L2 L2.IR
variable {K : PySem.W.Frag}
theorem b_is_number : ∀ vs H Q E, sp_is_number K vs H Q E → wpSs K (Γ K) gv ir_is_number (ends Q) (start N_is_number vs) H := by
  rintro vs H Q E ⟨n, rfl, q⟩
  exact q
theorem ifB {b : Bool} {A B : Prop} (h1 : b = true → A) (h2 : b = false → B) : if b = true then A else B := by
  cases b with
  | true => exact h1 rfl
  | false => exact h2 rfl
theorem b_is_length : ∀ vs H Q E, sp_is_length K vs H Q E → wpSs K (Γ K) gv ir_is_length (ends Q) (start N_is_length vs) H := by
  rintro vs H Q E ⟨n, rfl, q⟩
  refine ⟨n, rfl, ?_⟩
  show if decide ((1 : Int) ≤ n) = true then Q (.bl (decide (n ≤ 6))) H else Q (.bl false) H
  refine ifB (fun h => ?_) (fun h => ?_)
  · rw [h, Bool.true_and] at q
    exact q
  · rw [h, Bool.false_and] at q
    exact q
theorem b_is_grid : ∀ vs H Q E, sp_is_grid K vs H Q E → wpSs K (Γ K) gv ir_is_grid (ends Q) (start N_is_grid vs) H := by
  rintro vs H Q E ⟨g, r, c, rfl, hg, ok, q⟩
  refine ⟨.tuple, .tup hg, [.int r, .int c], .inr (SqT.of hg), [.int r, .int c], .int r, .inr (SqT.of hg), rfl, r, rfl, ?_⟩
  rw [decide_eq_true ok.r1, decide_eq_true ok.r6]
  refine ⟨[.int r, .int c], .int c, .inr (SqT.of hg), rfl, c, rfl, ?_⟩
  rw [decide_eq_true ok.c1, decide_eq_true ok.c6]
  exact q
theorem b_check_grid : ∀ vs H Q E, sp_check_grid K vs H Q E → wpSs K (Γ K) gv ir_check_grid (ends Q) (start N_check_grid vs) H := by
  rintro vs H Q E ⟨g, r, c, rfl, hg, ok, q⟩
  exact ⟨g, r, c, rfl, hg, ok, q⟩
theorem iv_get {cs : List Int} {i : Nat} {x : V} (h : (iv cs)[i]? = some x) : ∃ n, x = .int n ∧ cs[i]? = some n := by
  unfold iv at h
  rw [List.getElem?_map] at h
  cases e : cs[i]? with
  | none => rw [e] at h; cases h
  | some z => rw [e] at h; exact ⟨z, (Option.some.inj h).symm, rfl⟩
theorem mul36 {r c : Int} (ok : Okg r c) : 1 ≤ r * c ∧ r * c ≤ 36 := by
  obtain ⟨h1, h2, h3, h4⟩ := ok
  have : r = 1 ∨ r = 2 ∨ r = 3 ∨ r = 4 ∨ r = 5 ∨ r = 6 := by omega
  rcases this with rfl | rfl | rfl | rfl | rfl | rfl <;> omega
theorem mulOk {a b : Int} (h1 : -(2 ^ 64) < a) (h2 : a < 2 ^ 64) : IntMulOk a b := .of_left (intBits_le_64 h1 h2)
end Sx
set_option Elab.async false
set_option linter.all false
set_option maxRecDepth 100000
set_option maxHeartbeats 4000000
namespace Sx
open PySem L2 L2.IR
variable {K : PySem.W.Frag}
theorem line_ge {n : Nat} (h : n ≤ 1000) : n < sizeLine := Nat.lt_of_le_of_lt h (by decide)
theorem lcP {a : Addr} {xs : List V} {k : Nat} {tt : TT} {te : TE} {vs : List Nat} {σ : St} {H1 : Hp} {Qd : Addr → Hp → Prop} (p : V → Bool) (f : V → V) (hs : SqL K H1 a xs) (hlen : xs.length < sizeLine)
    (hw : ∀ x, wipe ((wipe σ vs).set k (some x)) vs = wipe σ vs)
    (test : ∀ x ∈ xs, ∀ H', Ex H1 H' → ∀ F : Bool → Hp → Prop, F (p x) H' → tt ((wipe σ vs).set k (some x)) H' F)
    (elt : ∀ x ∈ xs, p x = true → ∀ H', Ex H1 H' → ∀ F : V → Hp → Prop, F (f x) H' → te ((wipe σ vs).set k (some x)) H' F)
    (hq : ∀ D, H1 D = none → Qd D (upd H1 D (.lst ((xs.filter p).map f)))) :
    ∀ D, H1 D = none → ∃ W : Nat → Nat → Hp → Prop, (∃ m, W 0 m (upd H1 D (.lst []))) ∧ ∀ i m H, W i m H →
      ((Itl K a).stop i H ∧ Qd D H) ∨ ((Itl K a).go i H ∧ ∃ Nx : Hp → Prop, (∀ H', Nx H' → ∃ m', m' < m ∧ W (i + 1) m' H') ∧ ∀ x H', (Itl K a).yld i H x H' → gW K [k] true x (wipe σ vs) H' fun σ2 H2 => wipe σ2 vs = wipe σ vs ∧ tt σ2 H2 fun b H3 =>
        if b = true then te σ2 H3 fun y H4 => ∃ acc, H4 D = some (.lst acc) ∧ acc.length < sizeLine ∧ Nx (upd H4 D (.lst (acc ++ [y]))) else Nx H3) := by
  intro D hD
  refine lc_list (K := K) (a := a) (xs := xs) (g := gW K [k] true) (fun i H => H = upd H1 D (.lst (((xs.take i).filter p).map f))) rfl ?_ ?_ ?_
  · rintro i H _ rfl
    exact (Ex.new hD).seqL hs
  · rintro i x H hx rfl
    have hm := List.mem_of_getElem? hx
    have ext : Ex H1 (upd H1 D (.lst (((xs.take i).filter p).map f))) := Ex.new hD
    have tk : xs.take (i + 1) = xs.take i ++ [x] := by
      rw [List.take_add_one, hx]
      rfl
    refine ⟨hw x, test x hm _ ext _ ?_⟩
    refine ifB (fun hp => ?_) (fun hp => ?_)
    · refine elt x hm hp _ ext _ ⟨_, upd_same, ?_, ?_⟩
      · rw [List.length_map]
        refine Nat.lt_of_le_of_lt (List.length_filter_le _ _) ?_
        rw [List.length_take]
        omega
      · show upd _ _ _ = _
        rw [upd_upd, tk, List.filter_append, List.map_append]
        simp [hp]
    · show upd _ _ _ = _
      rw [tk, List.filter_append, List.map_append]
      simp [hp]
  · rintro H rfl
    rw [List.take_length]
    exact hq D hD
theorem iv_len (cs : List Int) : (iv cs).length = cs.length := List.length_map ..
theorem iv_app (a b : List Int) : iv (a ++ b) = iv a ++ iv b := List.map_append
end Sx
set_option Elab.async false
set_option linter.all false
set_option maxRecDepth 100000
set_option maxHeartbeats 4000000
namespace Sx
open PySem L2 L2.IR
variable {K : PySem.W.Frag}
theorem Okg.cell {r c : Int} (ok : Okg r c) {i j : Nat} (hi : i < r.toNat) (hj : j < c.toNat) : 0 ≤ (i : Int) * c + (j : Int) ∧ (i : Int) * c + (j : Int) < r * c := by
  obtain ⟨h1, h2, h3, h4⟩ := ok
  have a : (i : Int) + 1 ≤ r := by omega
  have b : (0 : Int) ≤ (i : Int) * c := Int.mul_nonneg (by omega) (by omega)
  have d : ((i : Int) + 1) * c ≤ r * c := Int.mul_le_mul_of_nonneg_right a (by omega)
  rw [Int.add_mul] at d
  omega
end Sx
set_option Elab.async false
set_option linter.all false
set_option maxRecDepth 100000
set_option maxHeartbeats 4000000
namespace Sx
open PySem L2 L2.IR
open Sd (Pt Side)
variable {K : PySem.W.Frag}
theorem z1 : 1 ≤ sizeLine := by decide
theorem z2 : 2 ≤ sizeLine := by decide
theorem z3 : 3 ≤ sizeLine := by decide
theorem z4 : 4 ≤ sizeLine := by decide
theorem b_sides_round : ∀ vs H Q E, sp_sides_round K vs H Q E → wpSs K (Γ K) gv ir_sides_round (ends Q) (start N_sides_round vs) H := by
  rintro vs H Q E ⟨c, n, rfl, c1, c6, q⟩
  refine ⟨⟨by omega, by omega⟩, fun d hd => ⟨d, [.int (n / c), .int (n % c)], rfl, SqT.of upd_same, rfl, ?_⟩⟩
  refine ⟨z2, fun t0 h0 => ⟨z2, fun t1 h1 => ⟨z2, fun t2 h2 => ⟨z2, fun t3 h3 => ⟨z4, fun p hp => ?_⟩⟩⟩⟩⟩
  generalize hH1 : upd H d (.tup [.int (n / c), .int (n % c)]) = H1 at h0 h1 h2 h3 hp
  have e1 : Ex H H1 := by rw [← hH1]; exact Ex.new hd
  generalize hH2 : upd H1 t0 (.tup [.int (n / c), .int (n % c)]) = H2 at h1 h2 h3 hp
  have e2 : Ex H1 H2 := by rw [← hH2]; exact Ex.new h0
  have p0 : PtAt H2 t0 (n / c, n % c) := by rw [← hH2]; exact upd_same
  generalize hH3 : upd H2 t1 (.tup [.int (n / c), .int (n % c + 1)]) = H3 at h2 h3 hp
  have e3 : Ex H2 H3 := by rw [← hH3]; exact Ex.new h1
  have p1 : PtAt H3 t1 (n / c, n % c + 1) := by rw [← hH3]; exact upd_same
  generalize hH4 : upd H3 t2 (.tup [.int (n / c + 1), .int (n % c + 1)]) = H4 at h3 hp
  have e4 : Ex H3 H4 := by rw [← hH4]; exact Ex.new h2
  have p2 : PtAt H4 t2 (n / c + 1, n % c + 1) := by rw [← hH4]; exact upd_same
  generalize hH5 : upd H4 t3 (.tup [.int (n / c + 1), .int (n % c)]) = H5 at hp
  have e5 : Ex H4 H5 := by rw [← hH5]; exact Ex.new h3
  have p3 : PtAt H5 t3 (n / c + 1, n % c) := by rw [← hH5]; exact upd_same
  generalize hH6 : upd H5 p (.lst [.ref t0, .ref t1, .ref t2, .ref t3]) = H6
  have e6 : Ex H5 H6 := by rw [← hH6]; exact Ex.new hp
  have pp : H6 p = some (.lst [.ref t0, .ref t1, .ref t2, .ref t3]) := by rw [← hH6]; exact upd_same
  have goal : wpSs K (Γ K) gv (.cons (.ret (.zipl (.var 4) (.op .Add (.slF (.var 4) (.int 1)) (.slT (.var 4) (.int 1))))) .nil) (ends Q) [some (.int c), some (.int n), some (.int (n / c)), some (.int (n % c)), some (.ref p)] H6 := by
    refine ⟨_, SqL.of pp, fun a ha => ⟨_, SqL.of (Ex.new ha _ _ pp), fun b hb => ?_⟩⟩
    have ca : (upd (upd H6 a (.lst (cutV [.ref t0, .ref t1, .ref t2, .ref t3] (some 1) none))) b (.lst (cutV [.ref t0, .ref t1, .ref t2, .ref t3] none (some 1)))) a = some (.lst [.ref t1, .ref t2, .ref t3]) := Ex.new hb _ _ upd_same
    have cb : (upd (upd H6 a (.lst (cutV [.ref t0, .ref t1, .ref t2, .ref t3] (some 1) none))) b (.lst (cutV [.ref t0, .ref t1, .ref t2, .ref t3] none (some 1)))) b = some (.lst [.ref t0]) := upd_same
    have eb : Ex H6 (upd (upd H6 a (.lst (cutV [.ref t0, .ref t1, .ref t2, .ref t3] (some 1) none))) b (.lst (cutV [.ref t0, .ref t1, .ref t2, .ref t3] none (some 1)))) := (Ex.new ha).trans (Ex.new hb)
    generalize (upd (upd H6 a (.lst (cutV [.ref t0, .ref t1, .ref t2, .ref t3] (some 1) none))) b (.lst (cutV [.ref t0, .ref t1, .ref t2, .ref t3] none (some 1)))) = H8 at ca cb eb
    refine ⟨a, b, _, _, rfl, rfl, ca, cb, z4, fun x hx => ?_⟩
    have ex : Ex H8 (upd H8 x (.lst ([.ref t1, .ref t2, .ref t3] ++ [.ref t0]))) := Ex.new hx
    refine ⟨p, x, [.ref t0, .ref t1, .ref t2, .ref t3], [.ref t1, .ref t2, .ref t3, .ref t0], rfl, rfl, SqL.of (ex _ _ (eb _ _ pp)), SqL.of upd_same, rfl, (show 0 < 4 by decide), fun l ts H' nl fr hl pr => ?_⟩
    have e16 : Ex H5 H' := e6.trans (eb.trans (ex.trans fr))
    have q0 : PtAt H' t0 (n / c, n % c) := e16 _ _ (e5 _ _ (e4 _ _ (e3 _ _ p0)))
    have q1 : PtAt H' t1 (n / c, n % c + 1) := e16 _ _ (e5 _ _ (e4 _ _ p1))
    have q2 : PtAt H' t2 (n / c + 1, n % c + 1) := e16 _ _ (e5 _ _ p2)
    have q3 : PtAt H' t3 (n / c + 1, n % c) := e16 _ _ p3
    have e0 : Ex H H' := e1.trans (e2.trans (e3.trans (e4.trans (e5.trans e16))))
    refine q l ts H' e0 ?_ hl ?_
    · exact ((e1.trans (e2.trans (e3.trans (e4.trans (e5.trans (e6.trans (eb.trans ex))))))).free nl)
    · cases pr with
      | cons a0 pr => cases pr with
        | cons a1 pr => cases pr with
          | cons a2 pr => cases pr with
            | cons a3 pr =>
              cases pr
              exact .cons ⟨_, _, a0.1, q0, q1⟩ (.cons ⟨_, _, a1.1, q1, q2⟩ (.cons ⟨_, _, a2.1, q2, q3⟩ (.cons ⟨_, _, a3.1, q3, q0⟩ .nil)))
  exact goal
end Sx
set_option Elab.async false
set_option linter.all false
set_option maxRecDepth 100000
set_option maxHeartbeats 4000000
namespace Sx
open PySem L2 L2.IR
open Sd (Pt Side)
variable {K : PySem.W.Frag}
theorem it_list {a : Addr} {xs : List V} {Qd : Hp → Prop} {F : (Hp → Prop) → V → Hp → Prop} {H0 : Hp} (Pv : Nat → Hp → Prop) (h0 : Pv 0 H0) (hl : ∀ i H, i ≤ xs.length → Pv i H → SqL K H a xs)
    (hs : ∀ i x H, xs[i]? = some x → Pv i H → F (Pv (i + 1)) x H) (hd : ∀ H, Pv xs.length H → Qd H) :
    ∃ W : Nat → Nat → Hp → Prop, (∃ m, W 0 m H0) ∧ ∀ i m H, W i m H →
      ((Itl K a).stop i H ∧ Qd H) ∨ ((Itl K a).go i H ∧ ∃ Nx : Hp → Prop, (∀ H', Nx H' → ∃ m', m' < m ∧ W (i + 1) m' H') ∧ ∀ x H', (Itl K a).yld i H x H' → F Nx x H') := by
  refine ⟨fun i m H => m = xs.length - i ∧ i ≤ xs.length ∧ Pv i H, ⟨xs.length, by simp, Nat.zero_le _, h0⟩, ?_⟩
  rintro i m H ⟨rfl, hi, p⟩
  have q := hl i H hi p
  by_cases hlt : i < xs.length
  · refine .inr ⟨⟨xs, xs[i], q, by simp [hlt]⟩, Pv (i + 1), fun H' p' => ⟨xs.length - (i + 1), by omega, rfl, hlt, p'⟩, fun x H' y => ?_⟩
    obtain ⟨e, y⟩ := y
    subst e
    exact hs i x _ (y xs q) p
  · have e : i = xs.length := by omega
    subst e
    exact .inl ⟨⟨xs, q, Nat.le_refl _⟩, hd H p⟩
theorem PtAt.put {H : Hp} {b D : Addr} {p : Pt} {o u : HO} (h : PtAt H b p) (hD : H D = some u) (ne : ∀ xs, u ≠ .tup xs) : PtAt (upd H D o) b p := by
  unfold PtAt at *
  rw [upd_ne (ne_of h hD (fun z => ne _ z.symm))]
  exact h
theorem SideAt.put {H : Hp} {b D : Addr} {s : Side} {o u : HO} (h : SideAt H b s) (hD : H D = some u) (ne : ∀ xs, u ≠ .tup xs) : SideAt (upd H D o) b s := by
  obtain ⟨b1, b2, h1, h2, h3⟩ := h
  refine ⟨b1, b2, ?_, h2.put hD ne, h3.put hD ne⟩
  rw [upd_ne (ne_of h1 hD (fun z => ne _ z.symm))]
  exact h1
theorem SideAt.ex {H H' : Hp} (e : Ex H H') {b : Addr} {s : Side} (h : SideAt H b s) : SideAt H' b s := by
  obtain ⟨b1, b2, h1, h2, h3⟩ := h
  exact ⟨b1, b2, e _ _ h1, e _ _ h2, e _ _ h3⟩
theorem pr_map {α β : Type} {F G : α → β → Prop} {l : List α} {m : List β} (h : Paired F l m) (f : ∀ a b, F a b → G a b) : Paired G l m := Paired.mapP h f
theorem pr_app {α β : Type} {F : α → β → Prop} : ∀ {a : List α} {b : List β} {a' : List α} {b' : List β}, Paired F a b → Paired F a' b' → Paired F (a ++ a') (b ++ b')
  | _, _, _, _, .nil, h => h
  | _, _, _, _, .cons r t, h => .cons r (pr_app t h)
theorem pr_len {α β : Type} {F : α → β → Prop} {a : List α} {b : List β} (h : Paired F a b) : a.length = b.length := Paired.length h
theorem take_snoc {α : Type} {xs : List α} {i : Nat} {x : α} (h : xs[i]? = some x) : xs.take (i + 1) = xs.take i ++ [x] := by
  rw [List.take_add_one, h]
  rfl
theorem sround_len (c n : Int) : (Sd.sround c n).length = 4 := rfl
theorem allS_len (c : Int) : ∀ cs, (Sd.allS c cs).length = 4 * cs.length
  | [] => rfl
  | n :: cs => by
    show ((n :: cs).flatMap (Sd.sround c)).length = _
    rw [List.flatMap_cons, List.length_append]
    have := allS_len c cs
    unfold Sd.allS at this
    rw [this, sround_len, List.length_cons]
    omega
theorem allS_snoc (c : Int) (cs : List Int) (n : Int) : Sd.allS c (cs ++ [n]) = Sd.allS c cs ++ Sd.sround c n := by
  unfold Sd.allS
  rw [List.flatMap_append]
  simp
theorem side_sd {H : Hp} {a : Addr} {s : Side} (h : SideAt H a s) : SdAt H a (sdK s) := by
  obtain ⟨b1, b2, h1, h2, h3⟩ := h
  exact ⟨[b1, b2], h1, .cons h2 (.cons h3 .nil)⟩
theorem ptK_inj {p q : Pt} (h : ptK p = ptK q) : p = q := by
  unfold ptK at h
  simp at h
  exact Prod.ext h.1 h.2
theorem sdK_inj {s t : Side} (h : sdK s = sdK t) : s = t := by
  unfold sdK at h
  simp at h
  exact Prod.ext (ptK_inj h.1) (ptK_inj h.2)
theorem ref_get {as : List Addr} {i : Nat} {x : V} (h : (as.map V.ref)[i]? = some x) : ∃ a, x = .ref a ∧ as[i]? = some a := by
  rw [List.getElem?_map] at h
  cases e : as[i]? with
  | none => rw [e] at h; cases h
  | some a => rw [e] at h; exact ⟨a, (Option.some.inj h).symm, rfl⟩
theorem b_rim_sides : ∀ vs H Q E, sp_rim_sides K vs H Q E → wpSs K (Γ K) gv ir_rim_sides (ends Q) (start N_rim_sides vs) H := by
  rintro vs H Q E ⟨c, p, cs, rfl, c1, c6, hp, hl36, q⟩
  refine ⟨p, rfl, ⟨_, SqL.of hp⟩, fun D hD => ?_⟩
  refine it_list (K := K) (a := p) (xs := iv cs) (F := fun Nx x H' => gW K [4] true x (wipe [some (.int c), some (.ref p), none, none, none, none, none, none] [4, 5]) H' _)
    (fun i H1 => Ex H H1 ∧ ∃ ts, H1 D = some (.lst (ts.map V.ref)) ∧ Paired (SideAt H1) ts (Sd.allS c (cs.take i))) ⟨Ex.new hD, [], upd_same, .nil⟩ ?_ ?_ ?_
  · rintro i H1 _ ⟨e, _⟩
    exact SqL.of (e _ _ hp)
  · rintro i x H1 hx ⟨e, ts, hd, pr⟩
    obtain ⟨n, rfl, hn⟩ := iv_get hx
    have hi := (List.getElem?_eq_some_iff.mp hn).1
    refine ⟨rfl, ?_⟩
    refine ⟨c, n, rfl, c1, c6, fun l us H2 e2 nl hl2 pu => ⟨l, rfl, ⟨_, SqL.of hl2⟩, ?_⟩⟩
    have d2 := e2 _ _ hd
    have hlD : l ≠ D := fun z => by rw [z] at nl; rw [nl] at hd; cases hd
    have lts : ts.length ≤ 144 := by
      rw [pr_len pr, allS_len, List.length_take]
      omega
    have lus : us.length = 4 := pr_len pu
    refine it_list (K := K) (a := l) (xs := us.map V.ref) (fun j H5 => Ex H H5 ∧ H5 D = some (.lst ((ts ++ us.take j).map V.ref)) ∧ H5 l = some (.lst (us.map V.ref)) ∧ Paired (SideAt H5) ts (Sd.allS c (cs.take i)) ∧ Paired (SideAt H5) us (Sd.sround c n))
      ⟨e.trans e2, by simpa using d2, hl2, pr_map pr fun _ _ z => z.ex e2, pu⟩ ?_ ?_ ?_
    · rintro j H5 _ ⟨_, _, h, _⟩
      exact SqL.of h
    · rintro j y H5 hy ⟨e5, d5, l5, p5, u5⟩
      obtain ⟨u, rfl, hu⟩ := ref_get hy
      refine ⟨rfl, ?_⟩
      refine ⟨_, d5, ?_, e5.put hD, ?_, ?_, ?_, ?_⟩
      · rw [List.length_map, List.length_append, List.length_take]
        exact line_ge (by omega)
      · rw [upd_same, take_snoc hu, ← List.append_assoc, List.map_append (l₁ := ts ++ List.take j us)]
        rfl
      · rw [upd_ne hlD]; exact l5
      · exact pr_map p5 fun _ _ z => z.put d5 (fun _ z => nomatch z)
      · exact pr_map u5 fun _ _ z => z.put d5 (fun _ z => nomatch z)
    · rintro H5 ⟨e5, d5, l5, p5, u5⟩
      refine ⟨e5, ts ++ us, ?_, ?_⟩
      · rw [List.length_map, List.take_length] at d5
        exact d5
      · rw [take_snoc hn, allS_snoc]
        exact pr_app p5 u5
  · rintro H1 ⟨e1, ts, hd, pr⟩
    rw [iv_len, List.take_length] at pr
    have lts : ts.length ≤ 144 := by
      rw [pr_len pr, allS_len]
      omega
    -- the dict
    refine ⟨D, rfl, ⟨_, SqL.of hd⟩, fun B hB => ?_⟩
    have nBD : B ≠ D := fun z => by rw [z, hd] at hB; cases hB
    have at1 : ∀ {i : Nat} {t : Addr}, ts[i]? = some t → ∃ s, (Sd.allS c cs)[i]? = some s ∧ SideAt H1 t s := fun h => pairedAt pr h
    refine it_list (K := K) (a := D) (xs := ts.map V.ref) (fun i H2 => Ex H1 H2 ∧ ∃ kvs, H2 B = some (.dP kvs) ∧ kvs.length ≤ i ∧ ∀ s, (valV kvs (sdK s)).isSome = decide (s ∈ (Sd.allS c cs).take i)) ⟨Ex.new hB, [], upd_same, Nat.le_refl _, fun s => by simp [valV]⟩ ?_ ?_ ?_
    · rintro i H2 _ ⟨e2, _⟩
      exact SqL.of (e2 _ _ hd)
    · rintro i x H2 hx ⟨e2, kvs, hb, hk, hs⟩
      obtain ⟨t, rfl, ht⟩ := ref_get hx
      obtain ⟨s, hs1, sa⟩ := at1 ht
      have hi := (List.getElem?_eq_some_iff.mp ht).1
      refine ⟨rfl, t, sdK s, kvs, rfl, side_sd (sa.ex e2), hb, line_ge (by omega), e2.put hB, putK kvs (sdK s) (.bl true), upd_same, ?_, fun s' => ?_⟩
      · have := length_putK kvs (sdK s) (.bl true)
        omega
      · rw [valV_put, take_snoc hs1]
        by_cases z : sdK s' = sdK s
        · rw [if_pos z, sdK_inj z]
          simp
        · rw [if_neg z, hs s']
          have z' : ¬ s' = s := fun q => z (by rw [q])
          simp [z']
    · rintro H2 ⟨e2, kvs, hb, hk, hs⟩
      rw [List.length_map, pr_len pr, List.take_length] at hs
      have hd2 := e2 _ _ hd
      -- the sides on the rim
      refine ⟨D, rfl, ⟨_, SqL.of hd2⟩, fun R hR => ?_⟩
      have pr2 : Paired (SideAt H2) ts (Sd.allS c cs) := pr_map pr fun _ _ z => z.ex e2
      refine lc_list (K := K) (a := D) (xs := ts.map V.ref) (g := gW K [7, 6] false) (fun i H3 => Ex H2 H3 ∧ ∃ us, H3 R = some (.lst (us.map V.ref)) ∧ us.length ≤ i ∧ Paired (SideAt H3) us (((Sd.allS c cs).take i).filter fun s => !decide (Sd.rev s ∈ Sd.allS c cs))) ⟨Ex.new hR, [], upd_same, Nat.le_refl _, .nil⟩ ?_ ?_ ?_
      · rintro i H3 _ ⟨e3, _⟩
        exact SqL.of (e3 _ _ hd2)
      · rintro i x H3 hx ⟨e3, us, hu, lu, pu⟩
        obtain ⟨t, rfl, ht⟩ := ref_get hx
        obtain ⟨s, hs1, sa⟩ := pairedAt pr2 ht
        have hi := (List.getElem?_eq_some_iff.mp ht).1
        obtain ⟨b1, b2, k1, k2, k3⟩ := sa.ex e3
        refine ⟨t, [.ref b1, .ref b2], rfl, SqT.of k1, rfl, rfl, z2, fun v hv => ?_⟩
        have e4 : Ex H3 (upd H3 v (.tup [.ref b2, .ref b1])) := Ex.new hv
        have sv : SideAt (upd H3 v (.tup [.ref b2, .ref b1])) v (Sd.rev s) := ⟨b2, b1, upd_same, e4 _ _ k3, e4 _ _ k2⟩
        refine ⟨v, B, sdK (Sd.rev s), kvs, rfl, rfl, e4 _ _ (e3 _ _ hb), side_sd sv, ?_⟩
        show if (!(valV kvs (sdK (Sd.rev s))).isSome) = true then _ else _
        rw [hs (Sd.rev s), take_snoc hs1, List.filter_append]
        generalize upd H3 v (.tup [.ref b2, .ref b1]) = H4 at e4
        have hu4 := e4 _ _ hu
        refine ifB (fun z => ?_) (fun z => ?_)
        · refine ⟨z2, fun w hw => ⟨_, Ex.new hw _ _ hu4, ?_, ?_, us ++ [w], ?_, ?_, ?_⟩⟩
          · rw [List.length_map]; exact line_ge (by omega)
          · exact (e3.trans (e4.trans (Ex.new hw))).put hR
          · rw [upd_same, List.map_append]; rfl
          · rw [List.length_append, List.length_singleton]; omega
          · have f1 : ([s].filter fun s => !decide (Sd.rev s ∈ Sd.allS c cs)) = [s] := by simp only [List.filter_cons, z, if_true, List.filter_nil]
            rw [f1]
            have e5 : Ex H4 (upd H4 w (.tup [.ref b1, .ref b2])) := Ex.new hw
            refine pr_app (pr_map pu fun _ _ z => ((z.ex e4).ex e5).put (e5 _ _ hu4) (fun _ z => nomatch z)) (.cons ?_ .nil)
            exact SideAt.put ⟨b1, b2, upd_same, e5 _ _ (e4 _ _ k2), e5 _ _ (e4 _ _ k3)⟩ (e5 _ _ hu4) (fun _ z => nomatch z)
        · refine ⟨e3.trans e4, us, hu4, by omega, ?_⟩
          have f1 : ([s].filter fun s => !decide (Sd.rev s ∈ Sd.allS c cs)) = [] := by simp only [List.filter_cons, z, Bool.false_eq_true, if_false, List.filter_nil]
          rw [f1, List.append_nil]
          exact pr_map pu fun _ _ z => z.ex e4
      · rintro H3 ⟨e3, us, hu, lu, pu⟩
        rw [List.length_map, pr_len pr, List.take_length] at pu
        exact q R us H3 (e1.trans (e2.trans e3)) ((e1.trans e2).free hR) hu pu
end Sx
set_option Elab.async false
set_option linter.all false
set_option maxRecDepth 100000
set_option maxHeartbeats 4000000
namespace Sx
open PySem L2 L2.IR
open Sd (Pt Side)
variable {K : PySem.W.Frag}
def dPt (p : Pt) : PyData := .tuple [.int p.1, .int p.2]
theorem dp_pt {H : Hp} {b : Addr} {p : Pt} (h : PtAt H b p) : Dp K H (.ref b) (dPt p) := .tup (SqT.of h) (.cons (.int _) (.cons (.int _) .nil))
theorem sh_pt (p : Pt) : SeqAt.shaped (dPt p) = true := by
  unfold SeqAt.shaped dPt
  simp [PyData.canLay0, PyData.canLayAll0, PyData.depth, PyData.depthAll]
theorem eqv_pt (p q : Pt) : PyData.eqv (dPt p) (dPt q) = decide (p = q) := by
  obtain ⟨a, b⟩ := p
  obtain ⟨c, d⟩ := q
  simp only [dPt, PyData.eqv, PyData.eqvAll, Bool.and_true]
  rw [Bool.eq_iff_iff]
  simp
theorem PtAt.ex {H H' : Hp} (e : Ex H H') {b : Addr} {p : Pt} (h : PtAt H b p) : PtAt H' b p := e _ _ h
def Kv (H : Hp) (kvs : List (List Key × V)) (l : List Side) : Prop := Paired (fun kv s => kv.1 = ptK s.1 ∧ ∃ b, kv.2 = V.ref b ∧ PtAt H b s.2) kvs l
theorem Kv.ex {H H' : Hp} {kvs : List (List Key × V)} {l : List Side} (h : Kv H kvs l) (f : ∀ b p, PtAt H b p → PtAt H' b p) : Kv H' kvs l := pr_map h fun _ _ ⟨a, b, c, d⟩ => ⟨a, b, c, f _ _ d⟩
theorem Kv.at {H : Hp} {kvs : List (List Key × V)} {l : List Side} (h : Kv H kvs l) {p q : Pt} (e : Sd.nx l p = some q) : ∃ b, valV kvs (ptK p) = some (.ref b) ∧ PtAt H b q := by
  unfold Kv at h
  induction h with
  | nil => simp [Sd.nx] at e
  | @cons kv s ks l r t ih =>
    obtain ⟨e1, b, e2, hb⟩ := r
    by_cases z : s.1 = p
    · have : Sd.nx (s :: l) p = some s.2 := by simp [Sd.nx, List.find?_cons, z]
      rw [this] at e
      cases e
      refine ⟨b, ?_, hb⟩
      rw [valV_pos (by rw [e1, z]), e2]
    · have : Sd.nx (s :: l) p = Sd.nx l p := by simp [Sd.nx, List.find?_cons, z]
      rw [this] at e
      obtain ⟨b', h1, h2⟩ := ih e
      exact ⟨b', by rw [valV_neg (fun y => z (ptK_inj (e1 ▸ y)))]; exact h1, h2⟩
theorem Kv.no {H : Hp} {kvs : List (List Key × V)} {l : List Side} (h : Kv H kvs l) {p : Pt} (e : p ∉ l.map (·.1)) : valV kvs (ptK p) = none := by
  unfold Kv at h
  induction h with
  | nil => rfl
  | @cons kv s ks l r t ih =>
    obtain ⟨e1, _⟩ := r
    rw [List.map_cons, List.mem_cons, not_or] at e
    rw [valV_neg (fun y => e.1 (ptK_inj (e1 ▸ y)).symm)]
    exact ih e.2
theorem Kv.yes {H : Hp} {kvs : List (List Key × V)} {l : List Side} (h : Kv H kvs l) {p : Pt} (e : p ∈ l.map (·.1)) : ∃ v, valV kvs (ptK p) = some v := by
  obtain ⟨q, hq⟩ := Sd.nx_some e
  obtain ⟨b, hb, _⟩ := h.at hq
  exact ⟨_, hb⟩
theorem putK_old {κ : Type} [DecidableEq κ] {kvs : List (κ × V)} {k : κ} {v u : V} (h : valV kvs k = some u) : (putK kvs k v).length = kvs.length := by
  unfold putK
  rw [valV_any, h, if_pos (by rfl), List.length_map]
theorem okc_nodup {m : Int} {cs : List Int} (oc : Okc m cs) : cs.Nodup := oc.up.imp (fun h => by omega)
theorem okc_len {r c : Int} (ok : Okg r c) {cs : List Int} (oc : Okc (r * c) cs) : cs.length ≤ 36 := by
  have m := mul36 ok
  have := Sd.nodup_le (okc_nodup oc) (b := (List.range 36).map Int.ofNat) (fun x hx => by
    have := oc.lo x hx
    have := oc.hi x hx
    exact List.mem_map.mpr ⟨x.toNat, List.mem_range.mpr (by omega), by show ((x.toNat : Nat) : Int) = x; omega⟩)
  rw [List.length_map, List.length_range] at this
  exact this
theorem lex_pt (p q : Pt) : HT.lexLt [p.1, p.2] [q.1, q.2] = Sd.plt p q := by
  unfold Sd.plt
  rw [HT.lexLt_cons]
  by_cases e : p.1 = q.1
  · rw [if_pos e, if_pos e, HT.lexLt_cons]
    by_cases e2 : p.2 = q.2
    · rw [if_pos e2, HT.lexLt_nil_nil, e2]
      simp
    · rw [if_neg e2]
  · rw [if_neg e, if_neg e]
theorem b_ring_points : ∀ vs H Q E, sp_ring_points K vs H Q E → wpSs K (Γ K) gv ir_ring_points (ends Q) (start N_ring_points vs) H := by
  rintro vs H Q E ⟨g, p, r, c, cs, rfl, hg, ok, hp, oc, qn, qk⟩
  have l36 := okc_len ok oc
  refine ⟨[.int r, .int c], .int c, .inr (SqT.of hg), rfl, c, p, cs, rfl, ok.c1, ok.c6, hp, l36, fun S ts H1 e1 nS hS pr => ?_⟩
  generalize hl : Sd.rim c cs = l at pr
  have bal : Sd.Bal l := by rw [← hl]; exact Sd.bal_rim c (okc_nodup oc)
  have lts : ts.length = l.length := pr_len pr
  have lle : l.length ≤ 144 := by
    rw [← hl]
    refine Nat.le_trans (List.length_filter_le _ _) ?_
    rw [allS_len]
    omega
  -- the dict
  refine ⟨S, rfl, ⟨_, SqL.of hS⟩, fun B hB => ?_⟩
  refine it_list (K := K) (a := S) (xs := ts.map V.ref) (fun i H2 => Ex H1 H2 ∧ ∃ kvs, H2 B = some (.dT kvs) ∧ kvs.length ≤ i ∧ (((l.take i).map (·.1)).Nodup ∧ Kv H2 kvs (l.take i) ∨ ¬ ((l.take i).map (·.1)).Nodup ∧ kvs.length < i)) ⟨Ex.new hB, [], upd_same, Nat.le_refl _, .inl ⟨by simp, .nil⟩⟩ ?_ ?_ ?_
  · rintro i H2 _ ⟨e2, _⟩
    exact SqL.of (e2 _ _ hS)
  · rintro i x H2 hx ⟨e2, kvs, hb, hk, hs⟩
    obtain ⟨t, rfl, ht⟩ := ref_get hx
    obtain ⟨s, hs1, sa⟩ := pairedAt pr ht
    have hi := (List.getElem?_eq_some_iff.mp ht).1
    obtain ⟨b1, b2, k1, k2, k3⟩ := sa.ex e2
    refine ⟨t, [.ref b1, .ref b2], rfl, SqT.of k1, rfl, rfl, b1, ptK s.1, kvs, rfl, k2, hb, line_ge (by omega), e2.put hB, putK kvs (ptK s.1) (.ref b2), upd_same, ?_, ?_⟩
    · have := length_putK kvs (ptK s.1) (.ref b2)
      omega
    · rw [take_snoc hs1, List.map_append]
      rcases hs with ⟨nd, kv⟩ | ⟨nd, lt⟩
      · by_cases z : s.1 ∈ (l.take i).map (·.1)
        · obtain ⟨v, hv⟩ := kv.yes z
          refine .inr ⟨fun y => ?_, ?_⟩
          · rw [List.nodup_append] at y
            exact y.2.2 _ z _ (List.mem_singleton.mpr rfl) rfl
          · rw [putK_old hv]; omega
        · refine .inl ⟨?_, ?_⟩
          · rw [List.nodup_append]
            exact ⟨nd, by simp, fun a ha b hb e => z (by simp at hb; rw [← hb, ← e]; exact ha)⟩
          · rw [putK_new _ (kv.no z)]
            exact pr_app (Kv.ex kv fun b p h => h.put hb (fun _ z => nomatch z)) (.cons ⟨rfl, b2, rfl, k3.put hb (fun _ z => nomatch z)⟩ .nil)
      · refine .inr ⟨fun y => nd ?_, ?_⟩
        · rw [List.nodup_append] at y
          exact y.1
        · have := length_putK kvs (ptK s.1) (.ref b2)
          omega
  · rintro H2 ⟨e2, kvs, hb, hk, hs⟩
    rw [List.length_map, lts, List.take_length] at hs
    have hS2 := e2 _ _ hS
    refine ⟨B, kvs, rfl, hb, ts.map V.ref, .inl (SqL.of hS2), ?_⟩
    show if decide ((kvs.length : Int) < ((ts.map V.ref).length : Int)) = true then _ else _
    rw [List.length_map, lts]
    rcases hs with ⟨nd, kv⟩ | ⟨nd, lt⟩
    · have lk : kvs.length = l.length := pr_len kv
      rw [decide_eq_false (by omega)]
      have lne : l ≠ [] := by
        rw [← hl]
        cases hcs : cs with
        | nil => exact absurd hcs oc.ne
        | cons n cs' =>
          refine Sd.rim_ne (by have := ok.c1; omega) fun m hm => ?_
          have up := oc.up
          rw [hcs, List.pairwise_cons] at up
          rcases List.mem_cons.mp hm with rfl | hm
          · exact Int.le_refl _
          · exact Int.le_of_lt (up.1 m hm)
      have sne : l.map (·.1) ≠ [] := fun z => lne (List.map_eq_nil_iff.mp z)
      -- the first point
      refine ⟨B, kvs, rfl, hb, fun a qs na pq => ?_⟩
      have ea : Ex H2 (upd H2 a (.lst (qs.map V.ref))) := Ex.new na
      have z : ∀ {us : List Addr} {kvs : List (List Key × V)} {l : List Side}, Paired (fun (q : Addr) (kv : List Key × V) => dkT.at' H2 q kv.1) us kvs → Kv H2 kvs l → Paired (PtAt (upd H2 a (.lst (qs.map V.ref)))) us (l.map (·.1)) := by
        intro us kvs l h1
        induction h1 generalizing l with
        | nil => intro h2; cases h2; exact .nil
        | @cons q kv us ks hq _ ih =>
          intro h2
          cases h2 with
          | @cons _ s _ l' hs h3 =>
            refine .cons (ea _ _ ?_) (ih h3)
            have hq : H2 q = some (.tup (kv.1.map kV)) := hq
            rw [hq, hs.1]
            rfl
      have pp := z pq kv
      have pn : Paired (fun b (ns : List Int) => SqT K (upd H2 a (.lst (qs.map V.ref))) b (ns.map V.int)) qs ((l.map (·.1)).map fun p => [p.1, p.2]) := by
        have z : ∀ {us : List Addr} {ps : List Pt}, Paired (PtAt (upd H2 a (.lst (qs.map V.ref)))) us ps → Paired (fun b (ns : List Int) => SqT K (upd H2 a (.lst (qs.map V.ref))) b (ns.map V.int)) us (ps.map fun p => [p.1, p.2]) := by
          intro us ps h
          induction h with
          | nil => exact .nil
          | cons h _ ih => exact .cons (SqT.of h) ih
        exact z pp
      have lq : qs.length = l.length := by have := pr_len pn; simpa using this
      refine ⟨a, qs, (l.map (·.1)).map fun p => [p.1, p.2], rfl, SqL.of upd_same, pn, by have : 0 < l.length := List.length_pos_iff.mpr lne; omega, fun i b ns hb1 hn1 hmin => ⟨z1, fun P hP => ?_⟩⟩
      rw [List.getElem?_map] at hn1
      obtain ⟨p0, hp0, rfl⟩ := Option.map_eq_some_iff.mp hn1
      have mem0 : p0 ∈ l.map (·.1) := List.mem_of_getElem? hp0
      have e0 : p0 = Sd.minP (l.map (·.1)) := Sd.minP_only mem0 fun q hq => by
        have := hmin [q.1, q.2] (List.mem_map.mpr ⟨q, hq, rfl⟩)
        rw [lex_pt] at this
        exact this
      have pb : PtAt (upd H2 a (.lst (qs.map V.ref))) b p0 := by
        obtain ⟨p', h1, h2⟩ := pairedAt pp hb1
        rw [hp0] at h1
        cases h1
        exact h2
      have na' : H1 a = none := e2.free na
      generalize upd H2 a (.lst (qs.map V.ref)) = H3 at ea pb hP
      have nP : H2 P = none := ea.free hP
      have eP : Ex H3 (upd H3 P (.lst [.ref b])) := Ex.new hP
      have hPP : upd H3 P (.lst [.ref b]) P = some (.lst (([] ++ [b]).map V.ref)) := upd_same
      generalize upd H3 P (.lst [.ref b]) = H4 at eP hPP
      have e24 : Ex H2 H4 := ea.trans eP
      have way0 : Sd.Way l p0 p0 [p0] := Sd.Way.one mem0
      have np : Ex H H2 := e1.trans e2
      refine ⟨fun m σ H5 => σ = [some (.ref g), some (.ref p), some (.ref S), some (.ref B), some (.ref P), none, none] ∧ Ex H2 H5 ∧ Kv H5 kvs l ∧ ∃ bs bl pts p, H5 P = some (.lst ((bs ++ [bl]).map V.ref)) ∧ Paired (PtAt H5) (bs ++ [bl]) pts ∧ PtAt H5 bl p ∧ (bs ++ [bl])[0]? = some b ∧ PtAt H5 b p0 ∧ Sd.Way l p0 p pts ∧ Sd.walkL l p0 (l.length + 1 - pts.length) p pts = Sd.walkL l p0 l.length p0 [p0] ∧ m = l.length + 1 - pts.length,
        ⟨l.length, rfl, e24, kv.ex fun _ _ h => h.ex e24, [], b, [p0], p0, hPP, .cons (pb.ex eP) .nil, pb.ex eP, rfl, pb.ex eP, way0, by rw [List.length_singleton, Nat.add_sub_cancel], by rw [List.length_singleton, Nat.add_sub_cancel]⟩, ?_⟩
      rintro m σ H5 ⟨rfl, e5, kv5, bs, bl, pts, pl, hP5, pr5, hbl, hb0, hbp, way, hw, rfl⟩
      obtain ⟨qq, hq, w1, w2⟩ := way.step bal nd
      obtain ⟨b', hv, hb'⟩ := kv5.at hq
      have hB5 := e5 _ _ hb
      have at0 : atI ((bs ++ [bl]).map V.ref) 0 = some (.ref b) := atI_nat (j := 0) (by rw [List.getElem?_map, hb0]; rfl)
      have at9 : atI ((bs ++ [bl]).map V.ref) (-1) = some (.ref bl) := by rw [List.map_append]; exact atI_last _ _
      have lpts := pr_len pr5
      have wl := way.len
      refine ⟨_, .ref bl, .inl (SqL.of hP5), at9, B, bl, ptK pl, kvs, .ref b', rfl, rfl, .inl hB5, hbl, hv, _, .ref b, .inl (SqL.of hP5), at0, dPt qq, dPt p0, dp_pt hb', dp_pt hbp, sh_pt _, sh_pt _, ?_⟩
      show if (!PyData.eqv (dPt qq) (dPt p0)) = true then _ else _
      rw [eqv_pt]
      by_cases zq : qq = p0
      · rw [decide_eq_true zq]
        rw [w1 zq] at hw
        have hS5 := e5 _ _ hS2
        refine ⟨_, .inl (SqL.of hP5), _, .inl (SqL.of hS5), ?_⟩
        show if decide ((((bs ++ [bl]).map V.ref).length : Int) = ((ts.map V.ref).length : Int)) = true then Q (.ref P) H5 else Q .non H5
        rw [List.length_map, List.length_map, lts, lpts]
        have rp : Sd.ringPts c cs = if pts.length = l.length then some pts else none := by
          unfold Sd.ringPts Sd.ringL
          rw [hl, if_pos nd, ← e0, ← hw]
        refine ifB (fun z => ?_) (fun z => ?_)
        · have z := of_decide_eq_true z
          refine qk P (bs ++ [bl]) pts H5 (np.trans e5) (np.free nP) ?_ hP5 pr5
          rw [rp, if_pos (by omega)]
        · have z := of_decide_eq_false z
          refine qn H5 (np.trans e5) ?_
          rw [rp, if_neg (by omega)]
      · rw [decide_eq_false zq]
        obtain ⟨way2, w3⟩ := w2 zq
        have wl2 := way2.len
        rw [List.length_append, List.length_singleton] at wl2
        refine ⟨fun σ H6 => σ = [some (.ref g), some (.ref p), some (.ref S), some (.ref B), some (.ref P), none, none] ∧ Ex H2 H6 ∧ Kv H6 kvs l ∧ ∃ bs bl, H6 P = some (.lst ((bs ++ [bl]).map V.ref)) ∧ Paired (PtAt H6) (bs ++ [bl]) (pts ++ [qq]) ∧ PtAt H6 bl qq ∧ (bs ++ [bl])[0]? = some b ∧ PtAt H6 b p0, ?_, ?_⟩
        · rintro σ' H6 ⟨rfl, e6, kv6, bs', bl', h1, h2, h3, h4, h5⟩
          refine ⟨l.length + 1 - (pts ++ [qq]).length, ?_, rfl, e6, kv6, bs', bl', pts ++ [qq], qq, h1, h2, h3, h4, h5, way2, by rw [← w3]; exact hw, rfl⟩
          rw [List.length_append, List.length_singleton]
          omega
        · refine ⟨⟨P, _, rfl, hP5⟩, _, .ref bl, .inl (SqL.of hP5), at9, B, bl, ptK pl, kvs, .ref b', rfl, rfl, .inl hB5, hbl, hv, P, _, rfl, hP5, ?_, rfl, e5.put nP, kv5.ex fun _ _ h => h.put hP5 (fun _ z => nomatch z), bs ++ [bl], b', ?_, ?_, hb'.put hP5 (fun _ z => nomatch z), ?_, hbp.put hP5 (fun _ z => nomatch z)⟩
          · rw [List.length_map, lpts]
            exact line_ge (by omega)
          · rw [upd_same, List.map_append (l₁ := bs ++ [bl])]
            rfl
          · exact pr_app (pr_map pr5 fun _ _ h => h.put hP5 (fun _ z => nomatch z)) (.cons (hb'.put hP5 (fun _ z => nomatch z)) .nil)
          · rw [List.getElem?_append_left (by simp)]
            exact hb0
    · rw [decide_eq_true (by omega)]
      refine qn H2 (e1.trans e2) ?_
      unfold Sd.ringPts Sd.ringL
      rw [hl, if_neg nd]
theorem b_is_one_ring : ∀ vs H Q E, sp_is_one_ring K vs H Q E → wpSs K (Γ K) gv ir_is_one_ring (ends Q) (start N_is_one_ring vs) H := by
  rintro vs H Q E ⟨g, p, r, c, cs, rfl, hg, ok, hp, oc, q⟩
  refine ⟨g, p, r, c, cs, rfl, hg, ok, hp, oc, fun H' e h => ?_, fun a bs pts H' e _ h _ _ => ?_⟩
  · have := q H' e
    unfold Sd.isRing at this
    rw [h] at this
    exact ⟨rfl, this⟩
  · have := q H' e
    unfold Sd.isRing at this
    rw [h] at this
    exact ⟨rfl, this⟩
end Sx
set_option Elab.async false
set_option linter.all false
set_option maxRecDepth 100000
set_option maxHeartbeats 4000000
namespace Sx
open PySem L2 L2.IR
variable {K : PySem.W.Frag}
theorem Ck.get {H : Hp} {a : Addr} {as : List Addr} {m : List (List Int)} (h : Ck H a as m) {i : Nat} {b : Addr} (e : as[i]? = some b) : ∃ x, m[i]? = some x ∧ LAt H b x := pairedAt h.r e
theorem Ck.ex {H H' : Hp} (e : Ex H H') {a : Addr} {as : List Addr} {m : List (List Int)} (h : Ck H a as m) : Ck H' a as m := ⟨e _ _ h.a, pr_map h.r fun _ _ z => e _ _ z⟩
theorem ref_mem {as : List Addr} {x : V} (h : x ∈ as.map V.ref) : ∃ a, x = .ref a ∧ a ∈ as := by
  obtain ⟨a, ha, rfl⟩ := List.mem_map.mp h
  exact ⟨a, rfl, ha⟩
theorem Ck.mem {H : Hp} {a : Addr} {as : List Addr} {m : List (List Int)} (h : Ck H a as m) {b : Addr} (e : b ∈ as) : ∃ x ∈ m, LAt H b x := by
  obtain ⟨i, hi, e⟩ := List.getElem_of_mem e
  obtain ⟨x, h1, h2⟩ := h.get (i := i) (b := b) (by rw [List.getElem?_eq_getElem hi, e])
  exact ⟨x, List.mem_of_getElem? h1, h2⟩
theorem Okm.first {r c : Int} {m : List (List Int)} (ok : Okm r c m) : ∃ x xs, m = x :: xs := by
  cases m with
  | nil => have := ok.len; have := ok.g.r1; simp at *; omega
  | cons x xs => exact ⟨x, xs, rfl⟩
theorem Ck.first {H : Hp} {a : Addr} {as : List Addr} {m : List (List Int)} (h : Ck H a as m) {r c : Int} (ok : Okm r c m) : ∃ b bs x xs, as = b :: bs ∧ m = x :: xs ∧ LAt H b x ∧ (x.length : Int) = c := by
  obtain ⟨x, xs, rfl⟩ := ok.first
  obtain ⟨h1, h2⟩ := h
  cases h2 with
  | cons hb _ => exact ⟨_, _, x, xs, rfl, rfl, hb, (ok.row x List.mem_cons_self).1⟩
end Sx
set_option Elab.async false
set_option linter.all false
set_option maxRecDepth 100000
set_option maxHeartbeats 4000000
namespace Sx
open PySem L2 L2.IR
variable {K : PySem.W.Frag}
theorem allT_ok (n : Nat) : ∀ i, i ≤ n → ∀ x ∈ allT n i, x ≠ [] ∧ x.Pairwise (· < ·) ∧ ∀ y ∈ x, (n : Int) - i ≤ y ∧ y < n
  | 0, _, x, h => by cases h
  | i + 1, hi, x, h => by
    have ih := allT_ok n i (by omega)
    unfold allT at h
    rcases List.mem_append.mp h with h | h
    · rcases List.mem_append.mp h with h | h
      · rw [List.mem_singleton.mp h]
        refine ⟨by simp, by simp, fun y hy => ?_⟩
        rw [List.mem_singleton.mp hy]
        omega
      · obtain ⟨b, hb, rfl⟩ := List.mem_map.mp h
        obtain ⟨h1, h2, h3⟩ := ih b hb
        refine ⟨by simp, ?_, fun y hy => ?_⟩
        · show List.Pairwise _ (((n : Int) - 1 - i) :: b)
          rw [List.pairwise_cons]
          exact ⟨fun y hy => by have := h3 y hy; omega, h2⟩
        · rcases List.mem_cons.mp hy with rfl | hy
          · omega
          · have := h3 y hy; omega
    · obtain ⟨h1, h2, h3⟩ := ih x h
      exact ⟨h1, h2, fun y hy => by have := h3 y hy; omega⟩
theorem allC_ok {r c : Int} (ok : Okg r c) {x : List Int} (h : x ∈ allC (r * c).toNat) : Okc (r * c) x := by
  have m := mul36 ok
  obtain ⟨h1, h2, h3⟩ := allT_ok _ _ (Nat.le_refl _) x h
  exact ⟨h1, h2, fun y hy => by have := h3 y hy; omega, fun y hy => by have := h3 y hy; omega⟩
theorem allT_len (n : Nat) : ∀ i, (allT n i).length + 1 = 2 ^ i
  | 0 => rfl
  | i + 1 => by
    have := allT_len n i
    unfold allT
    simp only [List.length_append, List.length_map, List.length_singleton]
    rw [Nat.pow_succ]
    omega
theorem pow9 {i : Nat} (h : i ≤ 9) : 2 ^ i ≤ 512 := Nat.pow_le_pow_right (by decide) h
theorem LAt.put {H : Hp} {b D : Addr} {x : List Int} {o : HO} (h : LAt H b x) (ne : b ≠ D) : LAt (upd H D o) b x := by
  unfold LAt at *
  rw [upd_ne ne]
  exact h
theorem LAt.ex {H H' : Hp} (e : Ex H H') {b : Addr} {x : List Int} (h : LAt H b x) : LAt H' b x := e _ _ h
theorem Rows.of {H H' : Hp} {D : Addr} {as : List Addr} {m : List (List Int)} (d0 : H D = none) (d : H' D = some (.lst (as.map V.ref))) (nd : as.Nodup) (nD : D ∉ as) (new : ∀ a ∈ as, H a = none) (p : Paired (LAt H') as m) : Rows H H' D as m :=
  ⟨d0, d, nd, nD, new, pr_len p, fun i a x h1 h2 => by
    obtain ⟨y, h3, h4⟩ := pairedAt p h1
    rw [h2] at h3
    cases h3
    exact h4⟩
theorem pr_of_ix {α β : Type} {F : α → β → Prop} : ∀ {as : List α} {m : List β}, as.length = m.length → (∀ (i : Nat) a x, as[i]? = some a → m[i]? = some x → F a x) → Paired F as m
  | [], [], _, _ => .nil
  | a :: as, x :: m, hl, h => .cons (h 0 a x rfl rfl) (pr_of_ix (by simpa using hl) fun i b y h1 h2 => h (i + 1) b y (by simpa using h1) (by simpa using h2))
  | [], _ :: _, hl, _ => by simp at hl
  | _ :: _, [], hl, _ => by simp at hl
theorem Rows.pr {H H' : Hp} {D : Addr} {as : List Addr} {m : List (List Int)} (h : Rows H H' D as m) : Paired (LAt H') as m := pr_of_ix h.len h.rows
theorem b_all_cells : ∀ vs H Q E, sp_all_cells K vs H Q E → wpSs K (Γ K) gv ir_all_cells (ends Q) (start N_all_cells vs) H := by
  rintro vs H Q E ⟨g, r, c, rfl, hg, ok, nine, q⟩
  have m36 := mul36 ok
  obtain ⟨r1, r6, c1, c6⟩ := id ok
  refine ⟨g, _, rfl, SqT.of hg, rfl, by decide, fun L hL => ⟨mulOk (by omega) (by omega), (r * c).toNat, by omega, by omega, ?_⟩⟩
  generalize hn : (r * c).toNat = n at q
  have n9 : n ≤ 9 := by omega
  refine for_rangeC (lo := (n : Int) - 1) (c := -1) (n := n) (g := gW K [4] true) (fun i σ H1 => Ex H H1 ∧ ∃ L as v, σ = [some (.ref g), some (.int r), some (.int c), some (.ref L), v, none] ∧ H L = none ∧ H1 L = some (.lst (as.map V.ref)) ∧ as.Nodup ∧ L ∉ as ∧ (∀ a ∈ as, H a = none) ∧ Paired (LAt H1) as (allT n i))
    ⟨Ex.new hL, L, [], none, rfl, hL, upd_same, by simp, by simp, by simp, .nil⟩ ?_ ?_
  · rintro i σ H1 hi ⟨e1, L, as, v, rfl, nL, hL1, nd, nLa, new, pr⟩
    have ce : ((n : Int) - 1 + (i : Nat) * -1) = (n : Int) - 1 - i := by omega
    rw [ce]
    generalize hcell : (n : Int) - 1 - i = cell
    have las : as.length ≤ 511 := by
      have h1 := pr_len pr
      have h2 := allT_len n i
      have h3 := pow9 (i := i) (by omega)
      omega
    -- [[cell]]
    refine ⟨z1, fun q1 h1 => ⟨z1, fun q2 h2 => ?_⟩⟩
    have x1 : Ex H1 (upd H1 q1 (.lst [.int cell])) := Ex.new h1
    have l1 : LAt (upd H1 q1 (.lst [.int cell])) q1 [cell] := upd_same
    have n1 : H q1 = none := e1.free h1
    generalize upd H1 q1 (.lst [.int cell]) = H2 at h2 x1 l1
    have x2 : Ex H2 (upd H2 q2 (.lst [.ref q1])) := Ex.new h2
    have l2 : (upd H2 q2 (.lst [.ref q1])) q2 = some (.lst [.ref q1]) := upd_same
    have n2 : H1 q2 = none := x1.free h2
    generalize upd H2 q2 (.lst [.ref q1]) = H3 at x2 l2
    have x3 : Ex H1 H3 := x1.trans x2
    have q1as : q1 ∉ as := fun z => by
      obtain ⟨y, _, hy⟩ := pairedAt pr (a := q1) (i := as.idxOf q1) (by rw [List.getElem?_eq_getElem (List.idxOf_lt_length_of_mem z), List.getElem_idxOf])
      have hy : H1 q1 = _ := hy
      rw [h1] at hy; cases hy
    -- [[cell] + behind for behind in listed]
    refine ⟨L, rfl, ⟨_, SqL.of (x3 _ _ hL1)⟩, fun D hD => ?_⟩
    have nDL : L ≠ D := fun z => by rw [← z, x3 _ _ hL1] at hD; cases hD
    refine lc_list (K := K) (a := L) (xs := as.map V.ref) (g := gW K [5] true) (fun j H4 => Ex H3 H4 ∧ ∃ us, H4 D = some (.lst (us.map V.ref)) ∧ us.Nodup ∧ D ∉ us ∧ (∀ u ∈ us, H3 u = none) ∧ Paired (LAt H4) us ((((allT n i)).take j).map fun b => [cell] ++ b)) ⟨Ex.new hD, [], upd_same, by simp, by simp, by simp, .nil⟩ ?_ ?_ ?_
    · rintro j H4 _ ⟨e4, _⟩
      exact SqL.of (e4 _ _ (x3 _ _ hL1))
    · rintro j y H4 hy ⟨e4, us, hd, und, nDu, unew, pu⟩
      obtain ⟨b, rfl, hb⟩ := ref_get hy
      obtain ⟨xb, hxb, lb⟩ := pairedAt pr hb
      have hj : j < as.length := (List.getElem?_eq_some_iff.mp hb).1
      have okb := allT_ok n i (by omega) xb (List.mem_of_getElem? hxb)
      have lxb : xb.length ≤ 9 := by
        have h1 : xb.Nodup := okb.2.1.imp (fun h => by omega)
        have := Sd.nodup_le h1 (b := (List.range 9).map Int.ofNat) (fun x hx => by
          have := okb.2.2 x hx
          exact List.mem_map.mpr ⟨x.toNat, List.mem_range.mpr (by omega), by show ((x.toNat : Nat) : Int) = x; omega⟩)
        rwa [List.length_map, List.length_range] at this
      refine ⟨rfl, z1, fun t ht => ?_⟩
      have x5 : Ex H4 (upd H4 t (.lst [.int cell])) := Ex.new ht
      have l5 : LAt (upd H4 t (.lst [.int cell])) t [cell] := upd_same
      have lb5 : LAt (upd H4 t (.lst [.int cell])) b xb := x5 _ _ (e4 _ _ (x3 _ _ lb))
      generalize upd H4 t (.lst [.int cell]) = H5 at x5 l5 lb5
      refine ⟨t, b, _, _, rfl, rfl, l5, lb5, ?_, fun u hu => ?_⟩
      · rw [iv_len, iv_len]
        exact Nat.le_of_lt (line_ge (by simp; omega))
      have x6 : Ex H5 (upd H5 u (.lst (iv [cell] ++ iv xb))) := Ex.new hu
      have l6 : LAt (upd H5 u (.lst (iv [cell] ++ iv xb))) u ([cell] ++ xb) := by unfold LAt; rw [upd_same, iv_app]
      have d6 := x6 _ _ (x5 _ _ hd)
      have uD : u ≠ D := fun z => by rw [z, x5 _ _ hd] at hu; cases hu
      have u4 : H4 u = none := x5.free hu
      have uus : u ∉ us := fun z => by
        obtain ⟨y', _, hy'⟩ := pairedAt pu (a := u) (i := us.idxOf u) (by rw [List.getElem?_eq_getElem (List.idxOf_lt_length_of_mem z), List.getElem_idxOf])
        have hy' : H4 u = _ := hy'
        rw [u4] at hy'; cases hy'
      generalize upd H5 u (.lst (iv [cell] ++ iv xb)) = H6 at x6 l6 d6
      have lu := pr_len pu
      have hjt : j < (allT n i).length := (List.getElem?_eq_some_iff.mp hxb).1
      rw [List.length_map, List.length_take] at lu
      have x36 : Ex H3 H6 := e4.trans (x5.trans x6)
      refine ⟨_, d6, ?_, x36.put hD, us ++ [u], ?_, ?_, ?_, ?_, ?_⟩
      · rw [List.length_map]; exact line_ge (by omega)
      · rw [upd_same, List.map_append]; rfl
      · rw [List.nodup_append]
        exact ⟨und, by simp, fun a ha b' hb' e => uus (by rw [List.mem_singleton.mp hb'] at e; rw [← e]; exact ha)⟩
      · rw [List.mem_append, not_or]
        exact ⟨nDu, fun z => uD (List.mem_singleton.mp z).symm⟩
      · intro w hw
        rcases List.mem_append.mp hw with hw | hw
        · exact unew w hw
        · rw [List.mem_singleton.mp hw]; exact e4.free u4
      · rw [take_snoc hxb, List.map_append]
        refine pr_app (pr_of_ix (pr_len pu) fun k a' x' h1' h2' => ?_) (.cons (l6.put uD) .nil)
        obtain ⟨y', h3', h4'⟩ := pairedAt pu h1'
        rw [h2'] at h3'
        cases h3'
        exact LAt.put ((h4'.ex x5).ex x6) (fun z => nDu (by rw [← z]; exact List.mem_of_getElem? h1'))
    · rintro H4 ⟨e4, us, hd, und, nDu, unew, pu⟩
      rw [List.length_map, pr_len pr, List.take_length] at pu
      have lus : us.length ≤ 511 := by
        rw [pr_len pu, List.length_map, ← pr_len pr]; exact las
      -- the sums
      refine ⟨q2, D, _, _, rfl, rfl, e4 _ _ l2, hd, ?_, fun s1 hs1 => ?_⟩
      · rw [List.length_map]; exact Nat.le_of_lt (line_ge (by simp; omega))
      have x5 : Ex H4 (upd H4 s1 (.lst ([.ref q1] ++ us.map V.ref))) := Ex.new hs1
      have l5 : (upd H4 s1 (.lst ([.ref q1] ++ us.map V.ref))) s1 = some (.lst ([.ref q1] ++ us.map V.ref)) := upd_same
      generalize upd H4 s1 (.lst ([.ref q1] ++ us.map V.ref)) = H5 at x5 l5
      refine ⟨s1, L, _, _, rfl, rfl, l5, x5 _ _ (e4 _ _ (x3 _ _ hL1)), ?_, fun s2 hs2 => ?_⟩
      · rw [List.length_append, List.length_map, List.length_map]; exact Nat.le_of_lt (Nat.lt_of_le_of_lt (by simp; omega) (show 1200 < sizeLine by decide))
      have x6 : Ex H5 (upd H5 s2 (.lst ([.ref q1] ++ us.map V.ref ++ as.map V.ref))) := Ex.new hs2
      have e16 : Ex H1 (upd H5 s2 (.lst ([.ref q1] ++ us.map V.ref ++ as.map V.ref))) := x3.trans (e4.trans (x5.trans x6))
      have e26 : Ex H2 (upd H5 s2 (.lst ([.ref q1] ++ us.map V.ref ++ as.map V.ref))) := x2.trans (e4.trans (x5.trans x6))
      have l6 : (upd H5 s2 (.lst ([.ref q1] ++ us.map V.ref ++ as.map V.ref))) s2 = some (.lst ((([q1] ++ us) ++ as).map V.ref)) := by rw [upd_same, List.map_append, List.map_append]; rfl
      have s24 : H4 s2 = none := x5.free hs2
      have s2us : s2 ∉ us := fun z => by
        obtain ⟨y', _, hy'⟩ := pairedAt pu (a := s2) (i := us.idxOf s2) (by rw [List.getElem?_eq_getElem (List.idxOf_lt_length_of_mem z), List.getElem_idxOf])
        have hy' : H4 s2 = _ := hy'
        rw [s24] at hy'; cases hy'
      have s2as : s2 ∉ as := fun z => by
        obtain ⟨y', _, hy'⟩ := pairedAt pr (a := s2) (i := as.idxOf s2) (by rw [List.getElem?_eq_getElem (List.idxOf_lt_length_of_mem z), List.getElem_idxOf])
        have hy' : H4 s2 = _ := e4 _ _ (x3 _ _ hy')
        rw [s24] at hy'; cases hy'
      have s2q1 : s2 ≠ q1 := fun z => by
        have hy' : H4 q1 = _ := e4 _ _ (x2 _ _ l1)
        rw [← z, s24] at hy'; cases hy'
      have q1us : q1 ∉ us := fun z => by
        have := unew q1 z
        have hy' : H3 q1 = _ := x2 _ _ l1
        rw [this] at hy'; cases hy'
      refine ⟨e1.trans e16, s2, ([q1] ++ us) ++ as, some (.int cell), rfl, (e1.trans (x3.trans e4)).free s24, l6, ?_, ?_, ?_, ?_⟩
      · rw [List.nodup_append, List.nodup_append]
        refine ⟨⟨by simp, und, fun a ha b hb e => ?_⟩, nd, fun a ha b hb e => ?_⟩
        · rw [List.mem_singleton.mp ha] at e
          exact q1us (by rw [e]; exact hb)
        · subst e
          rcases List.mem_append.mp ha with ha | ha
          · rw [List.mem_singleton.mp ha] at hb
            exact q1as hb
          · have := unew a ha
            obtain ⟨y', _, hy'⟩ := pairedAt pr (a := a) (i := as.idxOf a) (by rw [List.getElem?_eq_getElem (List.idxOf_lt_length_of_mem hb), List.getElem_idxOf])
            have hy' : H3 a = _ := x3 _ _ hy'
            rw [this] at hy'; cases hy'
      · simp only [List.mem_append, List.mem_singleton, not_or]
        exact ⟨⟨s2q1, s2us⟩, s2as⟩
      · intro a ha
        rcases List.mem_append.mp ha with ha | ha
        · rcases List.mem_append.mp ha with ha | ha
          · rw [List.mem_singleton.mp ha]; exact n1
          · exact (e1.trans x3).free (unew a ha)
        · exact new a ha
      · show Paired _ _ (allT n (i + 1))
        unfold allT
        rw [hcell]
        refine pr_app (pr_app (.cons (e26 _ _ l1) .nil) ?_) ?_
        · exact pr_map pu fun _ _ z => (z.ex x5).ex x6
        · exact pr_map pr fun _ _ z => e16 _ _ z
  · rintro σ H1 ⟨e1, L, as, v, rfl, nL, hL1, nd, nLa, new, pr⟩
    exact q L as H1 e1 (Rows.of nL hL1 nd nLa new pr)
end Sx
set_option Elab.async false
set_option linter.all false
set_option maxRecDepth 100000
set_option maxHeartbeats 4000000
namespace Sx
open PySem L2 L2.IR
variable {K : PySem.W.Frag}
def fz {α β : Type} (p : β → Bool) (as : List α) (m : List β) : List α := ((as.zip m).filter fun q => p q.2).map (·.1)
theorem fz_snoc {α β : Type} (p : β → Bool) {as : List α} {m : List β} {i : Nat} {a : α} {x : β} (h1 : as[i]? = some a) (h2 : m[i]? = some x) (hl : as.length = m.length) :
    fz p (as.take (i + 1)) (m.take (i + 1)) = fz p (as.take i) (m.take i) ++ (if p x = true then [a] else []) := by
  unfold fz
  rw [take_snoc h1, take_snoc h2, List.zip_append (by rw [List.length_take, List.length_take, hl]), List.filter_append, List.map_append]
  congr 1
  cases h : p x <;> simp [h]
theorem fz_len {α β : Type} (p : β → Bool) (as : List α) (m : List β) : (fz p as m).length ≤ as.length := by
  unfold fz
  rw [List.length_map]
  refine Nat.le_trans (List.length_filter_le _ _) ?_
  rw [List.length_zip]
  omega
theorem fz_pr {α β : Type} {F : α → β → Prop} (p : β → Bool) : ∀ {as : List α} {m : List β}, Paired F as m → Paired F (fz p as m) (m.filter p)
  | _, _, .nil => .nil
  | _, _, .cons (a := a) (b := x) r t => by
    have ih := fz_pr p t
    unfold fz at *
    rw [List.zip_cons_cons, List.filter_cons, List.filter_cons]
    cases h : p x
    · simpa [h] using ih
    · simp only [h, if_true, List.map_cons]
      exact .cons r ih
theorem fz_sub {α β : Type} (p : β → Bool) : ∀ (as : List α) (m : List β), (fz p as m).Sublist as
  | [], _ => by simp [fz]
  | _ :: _, [] => by simp [fz]
  | a :: as, x :: m => by
    have ih := fz_sub p as m
    unfold fz at *
    rw [List.zip_cons_cons, List.filter_cons]
    cases h : p x
    · simp only [Bool.false_eq_true, if_false]
      exact ih.cons a
    · simp only [if_true, List.map_cons]
      exact ih.cons₂ a
theorem lcF {a : Addr} {as : List Addr} {β : Type} {m : List β} {k : Nat} {tt : TT} {te : TE} {vs : List Nat} {σ : St} {H1 : Hp} {Qd : Addr → Hp → Prop} (p : β → Bool) (hs : SqL K H1 a (as.map V.ref)) (hl : as.length = m.length) (hlen : as.length < sizeLine)
    (hw : ∀ x, wipe ((wipe σ vs).set k (some x)) vs = wipe σ vs)
    (test : ∀ (i : Nat) b x, as[i]? = some b → m[i]? = some x → ∀ H', Ex H1 H' → ∀ F : Bool → Hp → Prop, (∀ H'', Ex H' H'' → F (p x) H'') → tt ((wipe σ vs).set k (some (.ref b))) H' F)
    (elt : ∀ b H' (F : V → Hp → Prop), F (.ref b) H' → te ((wipe σ vs).set k (some (.ref b))) H' F)
    (hq : ∀ D H', H1 D = none → Ex H1 H' → H' D = some (.lst ((fz p as m).map V.ref)) → Qd D H') :
    ∀ D, H1 D = none → ∃ W : Nat → Nat → Hp → Prop, (∃ m, W 0 m (upd H1 D (.lst []))) ∧ ∀ i m H, W i m H →
      ((Itl K a).stop i H ∧ Qd D H) ∨ ((Itl K a).go i H ∧ ∃ Nx : Hp → Prop, (∀ H', Nx H' → ∃ m', m' < m ∧ W (i + 1) m' H') ∧ ∀ x H', (Itl K a).yld i H x H' → gW K [k] true x (wipe σ vs) H' fun σ2 H2 => wipe σ2 vs = wipe σ vs ∧ tt σ2 H2 fun b H3 =>
        if b = true then te σ2 H3 fun y H4 => ∃ acc, H4 D = some (.lst acc) ∧ acc.length < sizeLine ∧ Nx (upd H4 D (.lst (acc ++ [y]))) else Nx H3) := by
  intro D hD
  refine lc_list (K := K) (a := a) (xs := as.map V.ref) (g := gW K [k] true) (fun i H => Ex H1 H ∧ H D = some (.lst ((fz p (as.take i) (m.take i)).map V.ref))) ⟨Ex.new hD, upd_same⟩ ?_ ?_ ?_
  · rintro i H _ ⟨e, _⟩
    exact e.seqL hs
  · rintro i x H hx ⟨e, hd⟩
    obtain ⟨b, rfl, hb⟩ := ref_get hx
    have hi := (List.getElem?_eq_some_iff.mp hb).1
    obtain ⟨x, hm⟩ : ∃ x, m[i]? = some x := ⟨m[i]'(by omega), List.getElem?_eq_getElem _⟩
    refine ⟨hw _, test i b x hb hm _ e _ fun H2 e2 => ?_⟩
    have sn := fz_snoc p hb hm hl
    rw [sn]
    refine ifB (fun hp => ?_) (fun hp => ?_)
    · refine elt b _ _ ⟨_, e2 _ _ hd, ?_, ?_, ?_⟩
      · rw [List.length_map]
        have := fz_len p (as.take i) (m.take i)
        rw [List.length_take] at this
        omega
      · exact (e.trans e2).put hD
      · rw [upd_same, hp]
        simp
    · refine ⟨e.trans e2, ?_⟩
      rw [e2 _ _ hd, hp]
      simp
  · rintro H ⟨e, hd⟩
    rw [List.length_map, List.take_length, hl, List.take_length] at hd
    exact hq D H hD e hd
theorem Rows.fz {H H1 H' : Hp} {A D : Addr} {as : List Addr} {m : List (List Int)} (p : List Int → Bool) (rw1 : Rows H H1 A as m) (e : Ex H1 H') (hD : H1 D = none) (e0 : Ex H H1) (hd : H' D = some (.lst ((fz p as m).map V.ref))) : Rows H H' D (Sx.fz p as m) (m.filter p) := by
  have pr := rw1.pr
  refine Rows.of (e0.free hD) hd ((fz_sub p as m).nodup rw1.nd) (fun z => ?_) (fun a ha => rw1.new a ((fz_sub p as m).mem ha)) (pr_map (fz_pr p pr) fun _ _ z => e _ _ z)
  have z := (fz_sub p as m).mem z
  obtain ⟨i, hi⟩ := List.getElem?_of_mem z
  obtain ⟨x, _, h⟩ := pairedAt pr hi
  have h : H1 D = _ := h
  rw [hD] at h
  cases h
theorem allC_len {n : Nat} (h : n ≤ 9) : (allC n).length ≤ 511 := by
  have h2 := allT_len n n
  have h3 := pow9 h
  unfold allC
  omega
theorem nine_nat {r c : Int} (ok : Okg r c) (nine : r * c ≤ 9) : (r * c).toNat ≤ 9 := by omega
theorem b_all_rings : ∀ vs H Q E, sp_all_rings K vs H Q E → wpSs K (Γ K) gv ir_all_rings (ends Q) (start N_all_rings vs) H := by
  rintro vs H Q E ⟨g, r, c, rfl, hg, ok, nine, q⟩
  refine ⟨g, r, c, rfl, hg, ok, nine, fun A as H1 e1 rw1 => ⟨A, rfl, ⟨_, SqL.of rw1.d⟩, lcF (K := K) (Sd.isRing c) (SqL.of rw1.d) rw1.len ?_ (fun _ => rfl) ?_ (fun b H' F h => h) ?_⟩⟩
  · rw [rw1.len]
    exact line_ge (by have := allC_len (nine_nat ok nine); omega)
  · intro i b x hb hx H' e' F hF
    exact ⟨g, b, r, c, x, rfl, e' _ _ (e1 _ _ hg), ok, e' _ _ (rw1.rows i b x hb hx), allC_ok ok (List.mem_of_getElem? hx), hF⟩
  · intro D H' hD e hd
    exact q D _ H' (e1.trans e) (rw1.fz _ e hD e1 hd)
theorem b_rings : ∀ vs H Q E, sp_rings K vs H Q E → wpSs K (Γ K) gv ir_rings (ends Q) (start N_rings vs) H := by
  rintro vs H Q E ⟨g, r, c, rfl, hg, ok, nine, q⟩
  obtain ⟨r1, r6, c1, c6⟩ := id ok
  refine ⟨g, r, c, rfl, hg, ok, _, .int r, .inr (SqT.of hg), rfl, _, .int c, .inr (SqT.of hg), rfl, mulOk (by omega) (by omega), ?_⟩
  show if decide ((9 : Int) < r * c) = true then _ else _
  rw [decide_eq_false (by omega)]
  exact ⟨g, r, c, rfl, hg, ok, nine, q⟩
theorem Eb.one {H : Hp} {s : Addr} {o : HO} : Eb s H (upd H s o) := fun b o h ne => by rw [upd_ne ne]; exact h
theorem Eb.trans {H H1 H2 : Hp} {s : Addr} (a : Eb s H H1) (b : Eb s H1 H2) : Eb s H H2 := fun c o h ne => b c o (a c o h ne) ne
theorem Eb.ex {H H1 : Hp} {s : Addr} (a : Ex H H1) : Eb s H H1 := fun c o h _ => a c o h
theorem eb_free {H H0 H' : Hp} {p : Addr} (hp : H p = none) (e0 : Ex H H0) (eb : Eb p H0 H') : Ex H H' := fun b o h => eb b o (e0 b o h) (fun z => by rw [z, hp] at h; cases h)
end Sx
set_option Elab.async false
set_option linter.all false
set_option maxRecDepth 100000
set_option maxHeartbeats 4000000
namespace Sx
open PySem L2 L2.IR
open Sd (Pt Side)
variable {K : PySem.W.Frag}
theorem b_law_grid : ∀ vs H Q E, sp_law_grid K vs H Q E → wpSs K (Γ K) gv ir_law_grid (ends Q) (start N_law_grid vs) H := by
  rintro vs H Q E ⟨k, mo, rfl, hmo, q⟩
  refine ⟨by decide, ⟨by decide, by decide⟩, by decide, fun m σ H1 => Ex H H1 ∧ ∃ h w, σ = [some (.int k), some (.int mo), some (.int h), some (.int w)] ∧ (1 ≤ h ∧ h ≤ 6) ∧ (1 ≤ w ∧ w ≤ 6) ∧ m = (h + w).toNat, ⟨_, Ex.rfl, 1 + k % 6, 1 + k / 6 % 6, rfl, by omega, by omega, rfl⟩, ?_⟩
  rintro m σ H1 ⟨e1, h, w, rfl, hh, hw, rfl⟩
  refine ⟨mulOk (by omega) (by omega), ?_⟩
  show if decide (mo < h * w) = true then _ else _
  refine ifB (fun z => ?_) (fun z => ?_)
  · have z := of_decide_eq_true z
    refine ⟨fun σ' H' => Ex H H' ∧ ∃ h' w', σ' = [some (.int k), some (.int mo), some (.int h'), some (.int w')] ∧ (1 ≤ h' ∧ h' ≤ 6) ∧ (1 ≤ w' ∧ w' ≤ 6) ∧ (h' + w').toNat < (h + w).toNat, fun σ' H' ⟨e', h', w', a, b, c, d⟩ => ⟨_, d, e', h', w', a, b, c, rfl⟩, ?_⟩
    show if decide (w < h) = true then _ else _
    refine ifB (fun y => ?_) (fun y => ?_)
    · have y := of_decide_eq_true y
      exact ⟨z2, fun p hp => ⟨p, _, rfl, SqT.of upd_same, rfl, e1.trans (Ex.new hp), h - 1, w, rfl, by omega, by omega, by omega⟩⟩
    · have y := of_decide_eq_false y
      have w1 : w ≠ 1 := fun e => by
        subst e
        have : h = 1 := by omega
        subst this
        omega
      exact ⟨z2, fun p hp => ⟨p, _, rfl, SqT.of upd_same, rfl, e1.trans (Ex.new hp), h, w - 1, rfl, by omega, by omega, by omega⟩⟩
  · have z := of_decide_eq_false z
    exact ⟨z2, fun p hp => q p h w _ (e1.trans (Ex.new hp)) (e1.free hp) upd_same ⟨by omega, by omega, by omega, by omega⟩ (by omega)⟩
structure DC (kvs : List (List (List Key) × V)) (P : List Side) : Prop where
  ks : ∃ ks : List Side, kvs.map (·.1) = ks.map sdK ∧ (∀ s, s ∈ ks ↔ s ∈ P) ∧ ∀ p : Side → Bool, (∀ s, p s = true → P.count s ≤ 1) → ks.filter p = P.filter p
  val : ∀ s, s ∈ P → valV kvs (sdK s) = some (.int (P.count s : Nat))
  non : ∀ s, s ∉ P → valV kvs (sdK s) = none
  len : kvs.length ≤ P.length
theorem DC.nil : DC [] [] := ⟨⟨[], rfl, fun s => Iff.rfl, fun _ _ => rfl⟩, fun s h => (nomatch h), fun s _ => rfl, Nat.le_refl _⟩
theorem DC.get {kvs : List (List (List Key) × V)} {P : List Side} (d : DC kvs P) (s : Side) : (valV kvs (sdK s)).getD (.int 0) = .int (P.count s : Nat) := by
  by_cases h : s ∈ P
  · rw [d.val s h]; rfl
  · rw [d.non s h, List.count_eq_zero.mpr h]; rfl
theorem keys_old {κ : Type} [DecidableEq κ] {kvs : List (κ × V)} {k : κ} {v u : V} (h : valV kvs k = some u) : (putK kvs k v).map (·.1) = kvs.map (·.1) := by
  unfold putK
  rw [valV_any, h, if_pos (by rfl), List.map_map]
  refine List.map_congr_left fun kv _ => ?_
  show (if kv.1 = k then (kv.1, v) else kv).1 = kv.1
  split <;> rfl
theorem DC.put {kvs : List (List (List Key) × V)} {P : List Side} (d : DC kvs P) (s : Side) : DC (putK kvs (sdK s) (.int ((P.count s : Nat) + 1))) (P ++ [s]) := by
  obtain ⟨⟨ks, k1, k2, k3⟩, hv, hn, hl⟩ := d
  have cnt : ∀ t, (P ++ [s]).count t = P.count t + (if s = t then 1 else 0) := fun t => by
    rw [List.count_append, List.count_cons, List.count_nil]
    by_cases e : s = t
    · simp [e]
    · simp [e]
  refine ⟨?_, fun t ht => ?_, fun t ht => ?_, ?_⟩
  · by_cases h : s ∈ P
    · refine ⟨ks, by rw [keys_old (hv s h)]; exact k1, fun t => ?_, fun p hp => ?_⟩
      · rw [k2, List.mem_append, List.mem_singleton]
        exact ⟨.inl, fun z => z.elim id fun e => e ▸ h⟩
      · have ps : p s = false := by
          cases e : p s with
          | false => rfl
          | true =>
            have := hp s e
            rw [cnt, if_pos rfl] at this
            have : 0 < P.count s := List.count_pos_iff.mpr h
            omega
        rw [List.filter_append, k3 p fun t ht => by have := hp t ht; rw [cnt] at this; omega]
        simp [ps]
    · refine ⟨ks ++ [s], ?_, fun t => ?_, fun p hp => ?_⟩
      · rw [putK_new _ (hn s h), List.map_append, k1, List.map_append]; rfl
      · rw [List.mem_append, List.mem_append, k2]
      · rw [List.filter_append, List.filter_append, k3 p fun t ht => by have := hp t ht; rw [cnt] at this; omega]
  · rw [valV_put, cnt]
    by_cases e : sdK t = sdK s
    · have := sdK_inj e
      subst this
      rw [if_pos rfl, if_pos rfl]
      rfl
    · have ne : ¬ s = t := fun z => e (by rw [z])
      rw [if_neg e, if_neg ne]
      refine hv t ?_
      rcases List.mem_append.mp ht with ht | ht
      · exact ht
      · exact absurd (List.mem_singleton.mp ht).symm ne
  · rw [List.mem_append, not_or] at ht
    rw [valV_put, if_neg (fun z => ht.2 (by rw [sdK_inj z]; exact List.mem_singleton.mpr rfl))]
    exact hn t ht.1
  · have := length_putK kvs (sdK s) (.int ((P.count s : Nat) + 1))
    rw [List.length_append, List.length_singleton]
    omega
theorem side_new {H : Hp} {a1 a2 s : Addr} {i j k l : Int} (h1 : H a1 = none) (h2 : upd H a1 (.tup [.int i, .int j]) a2 = none) (hs : upd (upd H a1 (.tup [.int i, .int j])) a2 (.tup [.int k, .int l]) s = none) :
    Ex H (upd (upd (upd H a1 (.tup [.int i, .int j])) a2 (.tup [.int k, .int l])) s (.tup [.ref a1, .ref a2])) ∧ SideAt (upd (upd (upd H a1 (.tup [.int i, .int j])) a2 (.tup [.int k, .int l])) s (.tup [.ref a1, .ref a2])) s ((i, j), (k, l)) :=
  ⟨(Ex.new h1).trans ((Ex.new h2).trans (Ex.new hs)), a1, a2, upd_same, (Ex.new hs) _ _ ((Ex.new h2) _ _ upd_same), (Ex.new hs) _ _ upd_same⟩
theorem it_keys {κ : Type} [DecidableEq κ] {𝔡 : Dk κ} {d : Addr} {o : Obj} {kvs : List (κ × V)} {Qd : Hp → Prop} {F : (Hp → Prop) → V → Hp → Prop} {H0 : Hp} (Pv : Nat → Hp → Prop) (h0 : Pv 0 H0) (hl : ∀ i H, i ≤ kvs.length → Pv i H → H d = some (.frz o (𝔡.ho kvs)))
    (hs : ∀ i k v q H, kvs[i]? = some (k, v) → 𝔡.at' H q k → Pv i H → F (Pv (i + 1)) (.ref q) H) (hd : ∀ H, Pv kvs.length H → Qd H) :
    ∃ W : Nat → Nat → Hp → Prop, (∃ m, W 0 m H0) ∧ ∀ i m H, W i m H →
      ((Itkd 𝔡 d o kvs).stop i H ∧ Qd H) ∨ ((Itkd 𝔡 d o kvs).go i H ∧ ∃ Nx : Hp → Prop, (∀ H', Nx H' → ∃ m', m' < m ∧ W (i + 1) m' H') ∧ ∀ x H', (Itkd 𝔡 d o kvs).yld i H x H' → F Nx x H') := by
  refine ⟨fun i m H => m = kvs.length - i ∧ i ≤ kvs.length ∧ Pv i H, ⟨kvs.length, by simp, Nat.zero_le _, h0⟩, ?_⟩
  rintro i m H ⟨rfl, hi, p⟩
  have q := hl i H hi p
  by_cases hlt : i < kvs.length
  · refine .inr ⟨⟨q, hlt⟩, Pv (i + 1), fun H' p' => ⟨kvs.length - (i + 1), by omega, rfl, hlt, p'⟩, fun x H' y => ?_⟩
    obtain ⟨e, k, v, b, hk, ex, ha⟩ := y
    subst e ex
    exact hs i k v b _ hk ha p
  · have e : i = kvs.length := by omega
    subst e
    exact .inl ⟨⟨q, Nat.le_refl _⟩, hd H p⟩
theorem sdAt_side {H : Hp} {a : Addr} {s : Side} (h : SdAt H a (sdK s)) : SideAt H a s := by
  obtain ⟨bs, h1, h2⟩ := h
  match bs, h2 with
  | [b1, b2], .cons p1 (.cons p2 .nil) => exact ⟨b1, b2, h1, p1, p2⟩
theorem allF_snoc (c : Int) (cs : List Int) (n : Int) : Sd.allF c (cs ++ [n]) = Sd.allF c cs ++ Sd.fours c n := by
  unfold Sd.allF
  rw [List.flatMap_append, List.flatMap_cons, List.flatMap_nil, List.append_nil]
theorem allF_len (c : Int) : ∀ cs, (Sd.allF c cs).length = 4 * cs.length
  | [] => rfl
  | n :: cs => by
    have := allF_len c cs
    unfold Sd.allF at *
    rw [List.flatMap_cons, List.length_append, this, List.length_cons]
    show 4 + _ = _
    omega
theorem b_law_sides : ∀ vs H Q E, sp_law_sides K vs H Q E → wpSs K (Γ K) gv ir_law_sides (ends Q) (start N_law_sides vs) H := by
  rintro vs H Q E ⟨g, p, r, c, cs, rfl, hg, ok, hp, l36, q⟩
  obtain ⟨r1, r6, c1, c6⟩ := id ok
  intro D hD
  have e0 : Ex H (upd H D (.dP [])) := Ex.new hD
  have d0 : upd H D (.dP []) D = some (.dP []) := upd_same
  refine ⟨p, rfl, ⟨_, SqL.of (e0 _ _ hp)⟩, for_list (K := K) (a := p) (xs := iv cs) (g := gW K [3] true) (fun i σ H2 => Ex H H2 ∧ ∃ kvs v3 v4 v5 v6 v7, σ = [some (.ref g), some (.ref p), some (.ref D), v3, v4, v5, v6, v7] ∧ H2 D = some (.dP kvs) ∧ DC kvs (Sd.allF c (cs.take i))) ⟨e0, [], none, none, none, none, none, rfl, d0, DC.nil⟩ ?_ ?_ ?_⟩
  · rintro i σ H2 _ ⟨e2, _⟩
    exact SqL.of (e2 _ _ hp)
  · rintro i x σ H2 hx ⟨e2, kvs, v3, v4, v5, v6, v7, rfl, hd, dc⟩
    obtain ⟨n, rfl, hn⟩ := iv_get hx
    have hi : i < cs.length := (List.getElem?_eq_some_iff.mp hn).1
    have lP : (Sd.allF c (cs.take i)).length ≤ 144 := by
      rw [allF_len, List.length_take]
      omega
    have g2 := e2 _ _ hg
    refine ⟨_, .int c, .inr (SqT.of g2), rfl, ⟨by omega, by omega⟩, _, .int c, .inr (SqT.of g2), rfl, by omega, ?_⟩
    refine ⟨z2, fun a1 h1 => ⟨z2, fun a2 h2 => ⟨z2, fun s1 hs1 => ?_⟩⟩⟩
    obtain ⟨X1, S1⟩ := side_new h1 h2 hs1
    generalize upd (upd (upd H2 a1 (.tup [.int (n / c), .int (n % c)])) a2 (.tup [.int (n / c), .int (n % c + 1)])) s1 (.tup [.ref a1, .ref a2]) = H3 at X1 S1
    refine ⟨z2, fun a3 h3 => ⟨z2, fun a4 h4 => ⟨z2, fun s2 hs2 => ?_⟩⟩⟩
    obtain ⟨X2, S2⟩ := side_new h3 h4 hs2
    generalize upd (upd (upd H3 a3 (.tup [.int (n / c + 1), .int (n % c)])) a4 (.tup [.int (n / c + 1), .int (n % c + 1)])) s2 (.tup [.ref a3, .ref a4]) = H4 at X2 S2
    refine ⟨z2, fun L hL => ?_⟩
    have X3 : Ex H4 (upd H4 L (.lst [.ref s1, .ref s2])) := Ex.new hL
    have L3 : upd H4 L (.lst [.ref s1, .ref s2]) L = some (.lst [.ref s1, .ref s2]) := upd_same
    generalize upd H4 L (.lst [.ref s1, .ref s2]) = H5 at X3 L3
    refine ⟨z2, fun a5 h5 => ⟨z2, fun a6 h6 => ⟨z2, fun s3 hs3 => ?_⟩⟩⟩
    obtain ⟨X4, S3⟩ := side_new h5 h6 hs3
    generalize upd (upd (upd H5 a5 (.tup [.int (n / c), .int (n % c)])) a6 (.tup [.int (n / c + 1), .int (n % c)])) s3 (.tup [.ref a5, .ref a6]) = H6 at X4 S3
    refine ⟨z2, fun a7 h7 => ⟨z2, fun a8 h8 => ⟨z2, fun s4 hs4 => ?_⟩⟩⟩
    obtain ⟨X5, S4⟩ := side_new h7 h8 hs4
    generalize upd (upd (upd H6 a7 (.tup [.int (n / c), .int (n % c + 1)])) a8 (.tup [.int (n / c + 1), .int (n % c + 1)])) s4 (.tup [.ref a7, .ref a8]) = H7 at X5 S4
    refine ⟨z2, fun M hM => ?_⟩
    have X6 : Ex H7 (upd H7 M (.lst [.ref s3, .ref s4])) := Ex.new hM
    have L6 : upd H7 M (.lst [.ref s3, .ref s4]) M = some (.lst [.ref s3, .ref s4]) := upd_same
    generalize upd H7 M (.lst [.ref s3, .ref s4]) = H8 at X6 L6
    have L3' := (X4.trans (X5.trans X6)) _ _ L3
    refine ⟨L, M, _, _, rfl, rfl, L3', L6, z4, fun F hF => ?_⟩
    have X7 : Ex H8 (upd H8 F (.lst ([.ref s1, .ref s2] ++ [.ref s3, .ref s4]))) := Ex.new hF
    have F7 : upd H8 F (.lst ([.ref s1, .ref s2] ++ [.ref s3, .ref s4])) F = some (.lst (([s1, s2, s3, s4] : List Addr).map V.ref)) := upd_same
    generalize upd H8 F (.lst ([.ref s1, .ref s2] ++ [.ref s3, .ref s4])) = H9 at X7 F7
    have Y8 : Ex H6 H9 := X5.trans (X6.trans X7)
    have Y5 : Ex H4 H9 := X3.trans (X4.trans Y8)
    have Y3 : Ex H3 H9 := X2.trans Y5
    have Y2 : Ex H2 H9 := X1.trans Y3
    have T : Paired (SideAt H9) [s1, s2, s3, s4] (Sd.fours c n) := .cons (S1.ex Y3) (.cons (S2.ex Y5) (.cons (S3.ex Y8) (.cons (S4.ex (X6.trans X7)) .nil)))
    have hd9 := Y2 _ _ hd
    refine ⟨F, rfl, ⟨_, SqL.of F7⟩, for_list (K := K) (a := F) (xs := ([s1, s2, s3, s4] : List Addr).map V.ref) (g := gW K [7] true) (fun j σ H2 => Eb D H9 H2 ∧ ∃ kvs v3 v4 v5 v6 v7, σ = [some (.ref g), some (.ref p), some (.ref D), v3, v4, v5, v6, v7] ∧ H2 D = some (.dP kvs) ∧ DC kvs (Sd.allF c (cs.take i) ++ (Sd.fours c n).take j)) ⟨Eb.ex Ex.rfl, kvs, _, _, _, _, _, rfl, hd9, by rw [List.take_zero, List.append_nil]; exact dc⟩ ?_ ?_ ?_⟩
    · rintro j σ H' _ ⟨eb, _⟩
      exact SqL.of (eb _ _ F7 (ne_of F7 hd9 (fun z => nomatch z)))
    · rintro j x σ H' hx ⟨eb, kvs', w3, w4, w5, w6, w7, rfl, hd', dc'⟩
      obtain ⟨t, rfl, ht⟩ := ref_get hx
      obtain ⟨s, hs, sa⟩ := pairedAt T ht
      have hj : j < 4 := by have := (List.getElem?_eq_some_iff.mp ht).1; simpa using this
      have sa' : SideAt H' t s := by
        obtain ⟨b1, b2, k1, k2, k3⟩ := sa
        exact ⟨b1, b2, eb _ _ k1 (ne_of k1 hd9 (fun z => nomatch z)), eb _ _ k2 (ne_of k2 hd9 (fun z => nomatch z)), eb _ _ k3 (ne_of k3 hd9 (fun z => nomatch z))⟩
      have ll : kvs'.length < sizeLine := by
        have h1 := dc'.len
        rw [List.length_append, List.length_take] at h1
        exact line_ge (by omega)
      refine ⟨D, rfl, ⟨kvs', hd'⟩, t, sdK s, kvs', rfl, side_sd sa', hd', ?_⟩
      rw [dc'.get s]
      refine ⟨D, t, sdK s, kvs', rfl, rfl, side_sd sa', hd', ll, eb.trans Eb.one, _, _, _, _, _, _, rfl, upd_same, ?_⟩
      rw [take_snoc hs, ← List.append_assoc]
      exact dc'.put s
    · rintro σ H' ⟨eb, kvs', w3, w4, w5, w6, w7, rfl, hd', dc'⟩
      refine ⟨eb_free hD (e2.trans Y2) eb, kvs', _, _, _, _, _, rfl, hd', ?_⟩
      rw [take_snoc hn, allF_snoc]
      exact dc'
  · rintro σ H2 ⟨e2, kvs, v3, v4, v5, v6, v7, rfl, hd, dc⟩
    rw [iv_len, List.take_length] at dc
    refine ⟨D, .dP kvs, hd, trivial, fun od => ⟨D, od, kvs, rfl, upd_same, fun B hB => ?_⟩⟩
    have hDB : D ≠ B := fun z => by rw [z, upd_same] at hB; cases hB
    obtain ⟨ks, k1, k2, k3⟩ := dc.ks
    have lk : ks.length = kvs.length := by
      have := congrArg List.length k1
      rw [List.length_map, List.length_map] at this
      exact this.symm
    have llen : kvs.length ≤ 144 := by
      have := dc.len
      rw [allF_len] at this
      omega
    have B0 : H2 B = none := by rw [upd_ne hDB.symm] at hB; exact hB
    -- the heap stays but for the new list
    refine it_keys (𝔡 := dkP) (fun i H3 => Eb D H2 H3 ∧ H3 D = some (.frz od (.dP kvs)) ∧ ∃ ts, H3 B = some (.lst ((ts : List Addr).map V.ref)) ∧ ts.length ≤ i ∧ Paired (SideAt H3) ts ((ks.take i).filter fun s => decide ((Sd.allF c cs).count s = 1))) ?_ ?_ ?_ ?_
    · refine ⟨(Eb.one).trans (Eb.ex (Ex.new hB)), (by rw [upd_ne hDB]; exact upd_same), [], upd_same, Nat.le_refl _, .nil⟩
    · rintro i H3 _ ⟨_, h, _⟩
      exact h
    · rintro i k v t H3 hk hat ⟨eb, hf, ts, hB3, hlen, pr⟩
      have hi : i < kvs.length := (List.getElem?_eq_some_iff.mp hk).1
      obtain ⟨s, hs⟩ : ∃ s, ks[i]? = some s := ⟨ks[i]'(by omega), List.getElem?_eq_getElem _⟩
      have ek : k = sdK s := by
        have z : (kvs.map (·.1))[i]? = some k := by rw [List.getElem?_map, hk]; rfl
        rw [k1, List.getElem?_map, hs] at z
        exact (Option.some.inj z).symm
      subst ek
      have sP : s ∈ Sd.allF c cs := (k2 s).mp (List.mem_of_getElem? hs)
      have hv := dc.val s sP
      refine ⟨rfl, D, t, sdK s, kvs, _, rfl, rfl, .inr ⟨od, hf⟩, hat, hv, ?_⟩
      rw [take_snoc hs, List.filter_append]
      show if decide ((((Sd.allF c cs).count s : Nat) : Int) = 1) = true then _ else _
      have ed : decide ((((Sd.allF c cs).count s : Nat) : Int) = 1) = decide ((Sd.allF c cs).count s = 1) := by
        rw [Bool.eq_iff_iff]
        simp only [decide_eq_true_eq]
        omega
      rw [ed]
      refine ifB (fun z => ?_) (fun z => ?_)
      · refine ⟨_, hB3, ?_, ?_, ?_, ts ++ [t], ?_, ?_, ?_⟩
        · rw [List.length_map]; exact line_ge (by omega)
        · exact fun b o hb ne => by
            rw [upd_ne (ne_of_none hb B0)]
            exact eb b o hb ne
        · rw [upd_ne hDB]; exact hf
        · rw [upd_same, List.map_append]; rfl
        · rw [List.length_append, List.length_singleton]; omega
        · have sing : [s].filter (fun s => decide ((Sd.allF c cs).count s = 1)) = [s] := by rw [List.filter_cons, if_pos z, List.filter_nil]
          rw [sing]
          exact pr_app (pr_map pr fun _ _ h => h.put hB3 (fun _ z => nomatch z)) (.cons ((sdAt_side hat).put hB3 (fun _ z => nomatch z)) .nil)
      · refine ⟨eb, hf, ts, hB3, by omega, ?_⟩
        have sing : [s].filter (fun s => decide ((Sd.allF c cs).count s = 1)) = [] := by rw [List.filter_cons, if_neg (by rw [z]; exact Bool.false_ne_true), List.filter_nil]
        rw [sing, List.append_nil]
        exact pr
    · rintro H3 ⟨eb, hf, ts, hB3, _, pr⟩
      rw [← lk, List.take_length] at pr
      have fin : ks.filter (fun s => decide ((Sd.allF c cs).count s = 1)) = Sd.lawS c cs := k3 _ fun s hs => by
        have := of_decide_eq_true hs
        omega
      rw [fin] at pr
      refine ⟨hf, q B ts _ (fun b o hb => ?_) (e2.free B0) ?_ ?_⟩
      · have ne : b ≠ D := ne_of_none hb hD
        rw [upd_ne ne]
        exact eb b o (e2 b o hb) ne
      · rw [upd_ne hDB.symm]; exact hB3
      · exact pr_map pr fun _ _ h => h.put hf (fun _ z => nomatch z)
end Sx
set_option Elab.async false
set_option linter.all false
set_option maxRecDepth 100000
set_option maxHeartbeats 4000000
namespace Sx
open PySem L2 L2.IR
open Sd (Pt Side)
variable {K : PySem.W.Frag}
theorem Nr.ex {H H' : Hp} {kvs : List (List Key × V)} {E : List (Pt × Pt)} (n : Nr H kvs E) (e : Ex H H') : Nr H' kvs E :=
  ⟨n.key, fun p hp => let ⟨b, bs, h1, h2, h3⟩ := n.val p hp; ⟨b, bs, h1, e _ _ h2, pr_map h3 fun _ _ z => e _ _ z⟩, n.non, n.one, n.len⟩
theorem filt_ne {E : List (Pt × Pt)} {p p' q : Pt} (h : ¬ p = p') : ((E ++ [(p, q)]).filter fun e => decide (e.1 = p')) = E.filter fun e => decide (e.1 = p') := by
  rw [List.filter_append]
  simp [h]
theorem filt_eq {E : List (Pt × Pt)} {p q : Pt} : (((E ++ [(p, q)]).filter fun e => decide (e.1 = p)).map (·.2)) = ((E.filter fun e => decide (e.1 = p)).map (·.2)) ++ [q] := by
  rw [List.filter_append, List.map_append]
  simp
theorem Nr.old {H : Hp} {kvs : List (List Key × V)} {E : List (Pt × Pt)} (n : Nr H kvs E) {p q : Pt} {v : V} {b2 : Addr} (hv : valV kvs (ptK p) = some v) (hq : PtAt H b2 q) :
    ∃ b bs, v = .ref b ∧ H b = some (.lst ((bs : List Addr).map V.ref)) ∧ bs.length ≤ E.length ∧ Nr (upd H b (.lst (bs.map V.ref ++ [.ref b2]))) kvs (E ++ [(p, q)]) := by
  have hp : p ∈ E.map (·.1) := by
    by_cases z : p ∈ E.map (·.1)
    · exact z
    · rw [n.non p z] at hv; cases hv
  obtain ⟨b, bs, h1, h2, h3⟩ := n.val p hp
  rw [hv] at h1
  cases h1
  refine ⟨b, bs, rfl, h2, ?_, ?_, fun p' hp' => ?_, fun p' hp' => ?_, n.one, ?_⟩
  · have := pr_len h3
    rw [List.length_map] at this
    rw [this]
    exact List.length_filter_le _ _
  · obtain ⟨ps, k1, k2⟩ := n.key
    refine ⟨ps, k1, fun p' => ?_⟩
    rw [k2, List.map_append, List.mem_append]
    exact ⟨.inl, fun z => z.elim id fun e => by rw [List.mem_singleton.mp e]; exact hp⟩
  · by_cases e : p = p'
    · subst e
      refine ⟨b, bs ++ [b2], hv, ?_, ?_⟩
      · rw [upd_same, List.map_append]; rfl
      · rw [filt_eq]
        exact pr_app (pr_map h3 fun _ _ z => z.put h2 (fun _ y => nomatch y)) (.cons (hq.put h2 (fun _ y => nomatch y)) .nil)
    · have hp2 : p' ∈ E.map (·.1) := by
        rw [List.map_append, List.mem_append] at hp'
        exact hp'.elim id fun z => absurd (List.mem_singleton.mp z).symm e
      obtain ⟨b', bs', g1, g2, g3⟩ := n.val p' hp2
      have nb : b' ≠ b := fun z => e (n.one p p' b (by rw [hv]) (by rw [g1, z]))
      refine ⟨b', bs', g1, by rw [upd_ne nb]; exact g2, ?_⟩
      rw [filt_ne e]
      exact pr_map g3 fun _ _ z => z.put h2 (fun _ y => nomatch y)
  · rw [List.map_append, List.mem_append, not_or] at hp'
    exact n.non p' hp'.1
  · have := n.len
    rw [List.length_append]
    omega
theorem Nr.fresh {H H1 : Hp} {kvs : List (List Key × V)} {E : List (Pt × Pt)} (n : Nr H kvs E) {p q : Pt} {N e b2 : Addr} (hN : H N = some (.dT kvs)) (he : H e = none) (e1 : H1 = upd H e (.lst [])) (hv : valV kvs (ptK p) = none) (hq : PtAt H b2 q) :
    Nr (upd (upd H1 N (.dT (putK kvs (ptK p) (.ref e)))) e (.lst ([] ++ [.ref b2]))) (putK kvs (ptK p) (.ref e)) (E ++ [(p, q)]) := by
  subst e1
  have hp : p ∉ E.map (·.1) := fun z => by
    obtain ⟨b, _, h, _⟩ := n.val p z
    rw [h] at hv; cases hv
  have eN : N ≠ e := fun z => by rw [z, he] at hN; cases hN
  have stay : ∀ b o, H b = some o → b ≠ N → (upd (upd (upd H e (.lst [])) N (.dT (putK kvs (ptK p) (.ref e)))) e (.lst ([] ++ [.ref b2]))) b = some o := fun b o h ne => by
    have nb : b ≠ e := ne_of_none h he
    rw [upd_ne nb, upd_ne ne, upd_ne nb]
    exact h
  have pt : ∀ b u, PtAt H b u → PtAt (upd (upd (upd H e (.lst [])) N (.dT (putK kvs (ptK p) (.ref e)))) e (.lst ([] ++ [.ref b2]))) b u := fun b u h => stay b _ h (ne_of h hN (fun z => nomatch z))
  have alive : ∀ p' b, valV kvs (ptK p') = some (.ref b) → ∃ o, H b = some o := fun p' b h => by
    by_cases z : p' ∈ E.map (·.1)
    · obtain ⟨b', bs', g1, g2, _⟩ := n.val p' z
      rw [h] at g1
      cases g1
      exact ⟨_, g2⟩
    · rw [n.non p' z] at h; cases h
  refine ⟨?_, fun p' hp' => ?_, fun p' hp' => ?_, fun p1 p2 b h1 h2 => ?_, ?_⟩
  · obtain ⟨ps, k1, k2⟩ := n.key
    refine ⟨ps ++ [p], ?_, fun p' => ?_⟩
    · rw [putK_new _ hv, List.map_append, k1, List.map_append]; rfl
    · rw [List.mem_append, k2, List.map_append, List.mem_append]
      rfl
  · rw [valV_put]
    by_cases z : p = p'
    · subst z
      refine ⟨e, [b2], if_pos rfl, upd_same, ?_⟩
      have nil : (E.filter fun e => decide (e.1 = p)).map (·.2) = [] := by
        rw [List.map_eq_nil_iff, List.filter_eq_nil_iff]
        intro x hx hd
        exact hp (List.mem_map.mpr ⟨x, hx, of_decide_eq_true hd⟩)
      rw [filt_eq, nil]
      exact .cons (pt _ _ hq) .nil
    · have hp2 : p' ∈ E.map (·.1) := by
        rw [List.map_append, List.mem_append] at hp'
        exact hp'.elim id fun y => absurd (List.mem_singleton.mp y).symm z
      obtain ⟨b', bs', g1, g2, g3⟩ := n.val p' hp2
      refine ⟨b', bs', ?_, stay _ _ g2 (ne_of g2 hN (fun z => nomatch z)), ?_⟩
      · rw [if_neg (fun y => z (ptK_inj y).symm)]; exact g1
      · rw [filt_ne z]
        exact pr_map g3 fun _ _ y => pt _ _ y
  · rw [List.map_append, List.mem_append, not_or] at hp'
    rw [valV_put, if_neg (fun y => hp'.2 (by rw [ptK_inj y]; exact List.mem_singleton.mpr rfl))]
    exact n.non p' hp'.1
  · rw [valV_put] at h1 h2
    by_cases z1 : ptK p1 = ptK p <;> by_cases z2 : ptK p2 = ptK p
    · exact (ptK_inj z1).trans (ptK_inj z2).symm
    · rw [if_pos z1] at h1
      rw [if_neg z2] at h2
      cases h1
      obtain ⟨o, ho⟩ := alive _ _ h2
      rw [he] at ho; cases ho
    · rw [if_neg z1] at h1
      rw [if_pos z2] at h2
      cases h2
      obtain ⟨o, ho⟩ := alive _ _ h1
      rw [he] at ho; cases ho
    · rw [if_neg z1] at h1
      rw [if_neg z2] at h2
      exact n.one _ _ _ h1 h2
  · have := n.len
    have := length_putK kvs (ptK p) (.ref e)
    rw [List.length_append, List.length_singleton]
    omega
structure Pi (H0 H : Hp) (N : Addr) (E : List (Pt × Pt)) : Prop where
  ex : Ex H0 H
  nN : H0 N = none
  dn : ∃ kvs, H N = some (.dT kvs) ∧ Nr H kvs E ∧ ∀ p b, valV kvs (ptK p) = some (.ref b) → H0 b = none
theorem wp_add {D : Ends} {σ : St} {H0 H : Hp} {N b1 b2 : Addr} {i j : Nat} {p q : Pt} {E : List (Pt × Pt)} (pi : Pi H0 H N E) (hl : E.length ≤ 500) (h1 : σ[1]? = some (some (.ref N))) (hi : σ[i]? = some (some (.ref b1))) (hj : σ[j]? = some (some (.ref b2))) (hp : PtAt H0 b1 p) (hq : PtAt H0 b2 q)
    (k : ∀ H', Pi H0 H' N (E ++ [(p, q)]) → D.nx σ H') : wpS K (Γ K) gv (.expr (.appE (.sdef false (.var 1) (.var i) (.lst .nil)) (.var j))) D σ H := by
  obtain ⟨ex, nN, kvs, hN, nr, new⟩ := pi
  show atS σ 1 _
  rw [atS_eq]
  refine ⟨_, h1, N, rfl, ⟨kvs, hN⟩, ?_⟩
  show atS σ i _
  rw [atS_eq]
  refine ⟨_, hi, Nat.zero_le _, fun e he => ?_⟩
  have e1 : Ex H (upd H e (.lst [])) := Ex.new he
  have hp1 : PtAt (upd H e (.lst [])) b1 p := e1 _ _ (ex _ _ hp)
  have ll := nr.len
  refine ⟨b1, ptK p, kvs, rfl, hp1, e1 _ _ hN, line_ge (by omega), fun v hv => ?_, fun hv => ?_⟩
  · obtain ⟨b, bs, rfl, hb, hlen, nr'⟩ := (nr.ex e1).old hv (e1 _ _ (ex _ _ hq))
    refine ⟨.inl ⟨rfl, _, SqL.of hb⟩, ?_⟩
    show atS σ j _
    rw [atS_eq]
    refine ⟨_, hj, b, _, .ref b2, rfl, rfl, hb, by rw [List.length_map]; exact line_ge (by omega), k _ ⟨(ex.trans e1).put (new _ _ hv), nN, kvs, ?_, nr', new⟩⟩
    rw [upd_ne (ne_of (e1 _ _ hN) hb (fun z => nomatch z))]
    exact e1 _ _ hN
  · have fr := nr.fresh hN he rfl hv (ex _ _ hq)
    have eN : N ≠ e := fun z => by rw [z, he] at hN; cases hN
    have hb : upd (upd H e (.lst [])) N (.dT (putK kvs (ptK p) (.ref e))) e = some (.lst []) := by rw [upd_ne eN.symm, upd_same]
    refine ⟨.inl ⟨rfl, _, SqL.of hb⟩, ?_⟩
    show atS σ j _
    rw [atS_eq]
    refine ⟨_, hj, e, _, .ref b2, rfl, rfl, hb, z1, k _ ⟨?_, nN, _, ?_, fr, fun p' b hb' => ?_⟩⟩
    · exact ((ex.trans e1).put nN).put (ex.free he)
    · rw [upd_ne eN, upd_same]
      rfl
    · rw [valV_put] at hb'
      by_cases z : ptK p' = ptK p
      · rw [if_pos z] at hb'
        cases hb'
        exact ex.free he
      · rw [if_neg z] at hb'
        exact new p' b hb'
theorem ends2_snoc (l : List Side) (s : Side) : ends2 (l ++ [s]) = (ends2 l ++ [(s.1, s.2)]) ++ [(s.2, s.1)] := by
  unfold ends2
  rw [List.flatMap_append, List.flatMap_cons, List.flatMap_nil, List.append_nil, List.append_assoc]
  rfl
theorem ends2_len (l : List Side) : (ends2 l).length = 2 * l.length := by
  unfold ends2
  induction l with
  | nil => rfl
  | cons s l ih => rw [List.flatMap_cons, List.length_append, ih, List.length_cons]; simp; omega
theorem b_law_points : ∀ vs H Q E, sp_law_points K vs H Q E → wpSs K (Γ K) gv ir_law_points (ends Q) (start N_law_points vs) H := by
  rintro vs H Q E ⟨p, ts, l, rfl, hp, pr, l144, q⟩
  intro N hN
  have e0 : Ex H (upd H N (.dT [])) := Ex.new hN
  refine ⟨p, rfl, ⟨_, SqL.of (e0 _ _ hp)⟩, for_list (K := K) (a := p) (xs := ts.map V.ref) (g := gW K [2, 3] false) (fun i σ H2 => (∃ v2 v3, σ = [some (.ref p), some (.ref N), v2, v3]) ∧ Pi H H2 N (ends2 (l.take i))) ⟨⟨none, none, rfl⟩, e0, hN, [], upd_same, ⟨⟨[], rfl, fun p => Iff.rfl⟩, fun p h => (nomatch h), fun p _ => rfl, fun p q b h => (nomatch h), Nat.le_refl _⟩, fun p b h => (nomatch h)⟩ ?_ ?_ ?_⟩
  · rintro i σ H2 _ ⟨_, pi⟩
    exact SqL.of (pi.ex _ _ hp)
  · rintro i x σ H2 hx ⟨⟨v2, v3, rfl⟩, pi⟩
    obtain ⟨t, rfl, ht⟩ := ref_get hx
    obtain ⟨s, hs, b1, b2, k1, k2, k3⟩ := pairedAt pr ht
    have hi : i < l.length := (List.getElem?_eq_some_iff.mp hs).1
    have le : (ends2 (l.take i)).length ≤ 288 := by rw [ends2_len, List.length_take]; omega
    refine ⟨t, [.ref b1, .ref b2], rfl, SqT.of (pi.ex _ _ k1), rfl, ?_⟩
    refine wp_add (i := 2) (j := 3) (b1 := b1) (b2 := b2) pi (by omega) rfl rfl rfl k2 k3 fun H3 pi3 => ?_
    show wpS K (Γ K) gv (.expr (.appE (.sdef false (.var 1) (.var 3) (.lst .nil)) (.var 2))) _ [some (.ref p), some (.ref N), some (.ref b1), some (.ref b2)] H3
    refine wp_add (i := 3) (j := 2) (b1 := b2) (b2 := b1) pi3 (by rw [List.length_append, List.length_singleton]; omega) rfl rfl rfl k3 k2 fun H4 pi4 => ⟨⟨_, _, rfl⟩, ?_⟩
    rw [take_snoc hs, ends2_snoc]
    exact pi4
  · rintro σ H2 ⟨⟨v2, v3, rfl⟩, pi⟩
    have ll : ts.length = l.length := pr_len pr
    rw [List.length_map, ll, List.take_length] at pi
    obtain ⟨ex, nN, kvs, hN2, nr, _⟩ := pi
    exact q N kvs H2 ex nN hN2 nr
end Sx
set_option Elab.async false
set_option linter.all false
set_option maxRecDepth 100000
set_option maxHeartbeats 4000000
namespace Sx
open PySem L2 L2.IR
open Sd (Pt Side)
variable {K : PySem.W.Frag}
theorem lcRel {a : Addr} {xs : List V} {k : Nat} {tt : TT} {te : TE} {vs : List Nat} {σ : St} {H1 : Hp} {Qd : Addr → Hp → Prop} (R : V → V → Prop) (hs : SqL K H1 a xs) (hlen : xs.length < sizeLine) (htt : ∀ σ H F, F true H → tt σ H F)
    (hw : ∀ x, wipe ((wipe σ vs).set k (some x)) vs = wipe σ vs)
    (elt : ∀ x ∈ xs, ∀ H', Ex H1 H' → ∀ F : V → Hp → Prop, (∀ y, R x y → F y H') → te ((wipe σ vs).set k (some x)) H' F)
    (hq : ∀ D ys, H1 D = none → Paired R xs ys → Qd D (upd H1 D (.lst ys))) :
    ∀ D, H1 D = none → ∃ W : Nat → Nat → Hp → Prop, (∃ m, W 0 m (upd H1 D (.lst []))) ∧ ∀ i m H, W i m H →
      ((Itl K a).stop i H ∧ Qd D H) ∨ ((Itl K a).go i H ∧ ∃ Nx : Hp → Prop, (∀ H', Nx H' → ∃ m', m' < m ∧ W (i + 1) m' H') ∧ ∀ x H', (Itl K a).yld i H x H' → gW K [k] true x (wipe σ vs) H' fun σ2 H2 => wipe σ2 vs = wipe σ vs ∧ tt σ2 H2 fun b H3 =>
        if b = true then te σ2 H3 fun y H4 => ∃ acc, H4 D = some (.lst acc) ∧ acc.length < sizeLine ∧ Nx (upd H4 D (.lst (acc ++ [y]))) else Nx H3) := by
  intro D hD
  refine lc_list (K := K) (a := a) (xs := xs) (g := gW K [k] true) (fun i H => ∃ ys, H = upd H1 D (.lst ys) ∧ Paired R (xs.take i) ys) ⟨[], rfl, .nil⟩ ?_ ?_ ?_
  · rintro i H _ ⟨ys, rfl, _⟩
    exact (Ex.new hD).seqL hs
  · rintro i x H hx ⟨ys, rfl, pr⟩
    have hi := (List.getElem?_eq_some_iff.mp hx).1
    refine ⟨hw x, htt _ _ _ (iteT (elt x (List.mem_of_getElem? hx) _ (Ex.new hD) _ fun y hy => ⟨ys, upd_same, ?_, ys ++ [y], upd_upd .., ?_⟩))⟩
    · have := pr_len pr
      rw [List.length_take] at this
      omega
    · rw [take_snoc hx]
      exact pr_app pr (.cons hy .nil)
  · rintro H ⟨ys, rfl, pr⟩
    rw [List.take_length] at pr
    exact hq D ys hD pr
theorem near_ends2 (p : Pt) : ∀ l : List Side, ((ends2 l).filter fun e => decide (e.1 = p)).map (·.2) = Sd.nearL l p
  | [] => rfl
  | s :: l => by
    have ih := near_ends2 p l
    unfold ends2 Sd.nearL at *
    rw [List.flatMap_cons, List.flatMap_cons, List.filter_append, List.map_append, ih]
    congr 1
    by_cases h1 : s.1 = p <;> by_cases h2 : s.2 = p <;> simp [h1, h2]
theorem mem_ends2 {l : List Side} {p : Pt} : p ∈ (ends2 l).map (·.1) ↔ p ∈ l.map (·.1) ∨ p ∈ l.map (·.2) := by
  unfold ends2
  simp only [List.mem_map, List.mem_flatMap]
  constructor
  · rintro ⟨e, ⟨s, hs, he⟩, rfl⟩
    simp only [List.mem_cons, List.mem_nil_iff, or_false] at he
    rcases he with rfl | rfl
    · exact .inl ⟨s, hs, rfl⟩
    · exact .inr ⟨s, hs, rfl⟩
  · rintro (⟨s, hs, rfl⟩ | ⟨s, hs, rfl⟩)
    · exact ⟨(s.1, s.2), ⟨s, hs, by simp⟩, rfl⟩
    · exact ⟨(s.2, s.1), ⟨s, hs, by simp⟩, rfl⟩
theorem pts_iff {c : Int} {cs : List Int} (nd : cs.Nodup) (p : Pt) : p ∈ (ends2 (Sd.lawS c cs)).map (·.1) ↔ p ∈ (Sd.rim c cs).map (·.1) := by
  rw [mem_ends2]
  have b := Sd.bal_rim c nd
  have e2 : ∀ p, p ∈ (Sd.rim c cs).map (·.2) → p ∈ (Sd.rim c cs).map (·.1) := fun p hp => by
    obtain ⟨s, hs, rfl⟩ := List.mem_map.mp hp
    exact Sd.end_start b (p := s.1) hs
  have pm := Sd.lawS_perm (c := c) nd
  constructor
  · rintro (h | h)
    · obtain ⟨u, hu, rfl⟩ := List.mem_map.mp h
      obtain ⟨s, hs, rfl⟩ := List.mem_map.mp (pm.mem_iff.mp hu)
      unfold Sd.und
      split
      · exact List.mem_map.mpr ⟨s, hs, rfl⟩
      · exact e2 _ (List.mem_map.mpr ⟨s, hs, rfl⟩)
    · obtain ⟨u, hu, rfl⟩ := List.mem_map.mp h
      obtain ⟨s, hs, rfl⟩ := List.mem_map.mp (pm.mem_iff.mp hu)
      unfold Sd.und
      split
      · exact e2 _ (List.mem_map.mpr ⟨s, hs, rfl⟩)
      · exact List.mem_map.mpr ⟨s, hs, rfl⟩
  · intro h
    obtain ⟨s, hs, rfl⟩ := List.mem_map.mp h
    have hu : Sd.und s ∈ Sd.lawS c cs := pm.mem_iff.mpr (List.mem_map.mpr ⟨s, hs, rfl⟩)
    by_cases z : Sd.plt s.1 s.2 = true
    · rw [Sd.und_yes z] at hu
      exact .inl (List.mem_map.mpr ⟨s, hu, rfl⟩)
    · unfold Sd.und at hu
      rw [if_neg z] at hu
      exact .inr (List.mem_map.mpr ⟨Sd.rev s, hu, rfl⟩)
theorem keys_pts {H : Hp} {qs : List Addr} {kvs : List (List Key × V)} {ps : List Pt} (h : Paired (fun (q : Addr) (kv : List Key × V) => dkT.at' H q kv.1) qs kvs) (e : kvs.map (·.1) = ps.map ptK) : Paired (PtAt H) qs ps := by
  induction h generalizing ps with
  | nil =>
    cases ps with
    | nil => exact .nil
    | cons _ _ => cases e
  | @cons q kv qs kvs hq _ ih =>
    cases ps with
    | nil => cases e
    | cons p ps =>
      rw [List.map_cons, List.map_cons] at e
      injection e with e1 e2
      refine .cons ?_ (ih e2)
      have hq : H q = some (.tup (kv.1.map kV)) := hq
      show H q = _
      rw [hq, e1]
      rfl
theorem pts_ints {H : Hp} : ∀ {qs : List Addr} {ps : List Pt}, Paired (PtAt H) qs ps → Paired (fun b (ns : List Int) => SqT K H b (ns.map V.int)) qs (ps.map fun p => [p.1, p.2])
  | _, _, .nil => .nil
  | _, _, .cons h t => .cons (SqT.of h) (pts_ints t)
theorem pr_mem {α β : Type} {F : α → β → Prop} {a : List α} {b : List β} (h : Paired F a b) {x : α} (hx : x ∈ a) : ∃ y ∈ b, F x y := by
  obtain ⟨i, hi⟩ := List.getElem?_of_mem hx
  obtain ⟨y, h1, h2⟩ := pairedAt h hi
  exact ⟨y, List.mem_of_getElem? h1, h2⟩
theorem pr_mem2 {α β : Type} {F : α → β → Prop} : ∀ {a : List α} {b : List β}, Paired F a b → ∀ {y : β}, y ∈ b → ∃ x ∈ a, F x y
  | _, _, .cons h t, y, hy => by
    rcases List.mem_cons.mp hy with rfl | hy
    · exact ⟨_, List.mem_cons_self, h⟩
    · obtain ⟨x, h1, h2⟩ := pr_mem2 t hy
      exact ⟨x, List.mem_cons_of_mem _ h1, h2⟩
theorem b_law_is_ring : ∀ vs H Q E, sp_law_is_ring K vs H Q E → wpSs K (Γ K) gv ir_law_is_ring (ends Q) (start N_law_is_ring vs) H := by
  rintro vs H Q E ⟨g, p, r, c, cs, rfl, hg, ok, hp, oc, q⟩
  have ndc := okc_nodup oc
  have l36 := okc_len ok oc
  have lne : Sd.rim c cs ≠ [] := by
    cases hcs : cs with
    | nil => exact absurd hcs oc.ne
    | cons n cs' =>
      refine Sd.rim_ne (by have := ok.c1; omega) fun m hm => ?_
      have up := oc.up
      rw [hcs, List.pairwise_cons] at up
      rcases List.mem_cons.mp hm with rfl | hm
      · exact Int.le_refl _
      · exact Int.le_of_lt (up.1 m hm)
  have lle : (Sd.lawS c cs).length ≤ 144 := by
    rw [Sd.lawS_len ndc]
    refine Nat.le_trans (List.length_filter_le _ _) ?_
    rw [allS_len]
    omega
  refine ⟨g, p, r, c, cs, rfl, hg, ok, hp, l36, fun S ts H1 e1 nS hS prS => ⟨S, ts, Sd.lawS c cs, rfl, hS, prS, lle, fun N kvs H2 e2 nN hN nr => ?_⟩⟩
  have lts : ts.length = (Sd.lawS c cs).length := pr_len prS
  have hS2 := e2 _ _ hS
  obtain ⟨ps, kk, kp⟩ := nr.key
  have psr : ∀ x, x ∈ ps ↔ x ∈ (Sd.rim c cs).map (·.1) := fun x => (kp x).trans (pts_iff ndc x)
  have lps : ps.length = kvs.length := by
    have := congrArg List.length kk
    rw [List.length_map, List.length_map] at this
    exact this.symm
  have lk : kvs.length ≤ 288 := by
    have := nr.len
    rw [ends2_len] at this
    omega
  -- what is near, in later heaps
  have nearAt : ∀ {H' : Hp}, Ex H2 H' → ∀ x ∈ ps, ∃ b bs, valV kvs (ptK x) = some (.ref b) ∧ H' b = some (.lst ((bs : List Addr).map V.ref)) ∧ Paired (PtAt H') bs (Sd.nearL (Sd.lawS c cs) x) := fun e x hx => by
    obtain ⟨b, bs, h1, h2, h3⟩ := (nr.ex e).val x ((kp x).mp hx)
    rw [near_ends2] at h3
    exact ⟨b, bs, h1, h2, h3⟩
  have bal := Sd.bal_rim c ndc
  have two : (∀ x ∈ ps, (Sd.nearL (Sd.lawS c cs) x).length = 2) ↔ ((Sd.rim c cs).map (·.1)).Nodup := by
    rw [← Sd.near_two bal]
    constructor
    · intro h x hx
      rw [← (Sd.near_law ndc x).length_eq]
      exact h x ((psr x).mpr hx)
    · intro h x hx
      rw [(Sd.near_law ndc x).length_eq]
      exact h x ((psr x).mp hx)
  refine ⟨N, kvs, rfl, hN, fun a qs na pq => ?_⟩
  have ea : Ex H2 (upd H2 a (.lst (qs.map V.ref))) := Ex.new na
  have pp := keys_pts pq kk
  have lqs : qs.length = ps.length := pr_len pp
  have ppa : Paired (PtAt (upd H2 a (.lst (qs.map V.ref)))) qs ps := pr_map pp fun _ _ z => ea _ _ z
  refine .inl ⟨a, qs, ps.map fun p => [p.1, p.2], rfl, SqL.of upd_same, ?_, fun bs' a' pm na' => ?_⟩
  · have z := pts_ints (K := K) ppa
    have all : ∀ {us : List Addr} {vs : List Pt}, Paired (PtAt (upd H2 a (.lst (qs.map V.ref)))) us vs → Paired (fun b (ns : List Int) => SqT K (upd H2 a (.lst (qs.map V.ref))) b (ns.map V.int) ∧ ns ≠ []) us (vs.map fun p => [p.1, p.2]) := by
      intro us vs h
      induction h with
      | nil => exact .nil
      | cons h _ ih => exact .cons ⟨SqT.of h, by simp⟩ ih
    exact all ppa
  generalize upd H2 a (.lst (qs.map V.ref)) = H3 at ea ppa na'
  have ea' : Ex H3 (upd H3 a' (.lst (bs'.map V.ref))) := Ex.new na'
  have ha' : upd H3 a' (.lst (bs'.map V.ref)) a' = some (.lst (bs'.map V.ref)) := upd_same
  generalize upd H3 a' (.lst (bs'.map V.ref)) = H4 at ea' ha'
  have e24 := ea.trans ea'
  refine ⟨a', rfl, ⟨_, SqL.of ha'⟩, lcRel (K := K) (fun x y => ∃ u ∈ ps, ∃ b, x = .ref b ∧ PtAt H4 b u ∧ y = .bl (!decide ((Sd.nearL (Sd.lawS c cs) u).length = 2))) (SqL.of ha') ?_ (fun _ _ _ h => h) (fun _ => rfl) ?_ ?_⟩
  · rw [List.length_map, pm.length_eq, lqs, lps]; exact line_ge (by omega)
  · intro x hx H' e' F hF
    obtain ⟨b, rfl, hb⟩ := ref_mem hx
    obtain ⟨u, hu, pu⟩ := pr_mem ppa (pm.mem_iff.mp hb)
    have pu4 := ea' _ _ pu
    obtain ⟨nb, nbs, h1, h2, h3⟩ := nearAt (e24.trans e') u hu
    refine ⟨N, b, ptK u, kvs, .ref nb, rfl, rfl, .inl (e' _ _ (e24 _ _ hN)), e' _ _ pu4, h1, _, .inl (SqL.of h2), ?_⟩
    have := hF _ ⟨u, hu, b, rfl, pu4, rfl⟩
    show F (.bl (!decide (((nbs.map V.ref).length : Int) = 2))) H'
    have ed : decide (((nbs.map V.ref).length : Int) = 2) = decide ((Sd.nearL (Sd.lawS c cs) u).length = 2) := by
      rw [List.length_map, pr_len h3, Bool.eq_iff_iff]
      simp only [decide_eq_true_eq]
      omega
    rw [ed]
    exact this
  intro D ys hD pys
  -- the truths
  have bls : ∃ bl : List Bool, ys = bl.map V.bl ∧ (bl.any id = true ↔ ∃ x ∈ bs', ∃ u ∈ ps, PtAt H4 x u ∧ ¬ (Sd.nearL (Sd.lawS c cs) u).length = 2) := by
    clear hD
    have all : ∀ {xs : List Addr} {ys : List V}, Paired (fun x y => ∃ u ∈ ps, ∃ b, x = V.ref b ∧ PtAt H4 b u ∧ y = .bl (!decide ((Sd.nearL (Sd.lawS c cs) u).length = 2))) (xs.map V.ref) ys → ∃ bl : List Bool, ys = bl.map V.bl ∧ (bl.any id = true ↔ ∃ x ∈ xs, ∃ u ∈ ps, PtAt H4 x u ∧ ¬ (Sd.nearL (Sd.lawS c cs) u).length = 2) := by
      intro xs
      induction xs with
      | nil => intro ys h; cases h; exact ⟨[], rfl, by simp⟩
      | cons x xs ih =>
        intro ys h
        cases h with
        | cons h t =>
          obtain ⟨bl, h1, h2⟩ := ih t
          obtain ⟨u, hu, b, eb, pu, rfl⟩ := h
          cases eb
          refine ⟨(!decide ((Sd.nearL (Sd.lawS c cs) u).length = 2)) :: bl, by rw [h1]; rfl, ?_⟩
          rw [List.any_cons, Bool.or_eq_true, h2]
          constructor
          · rintro (z | ⟨x', hx', z⟩)
            · exact ⟨x, List.mem_cons_self, u, hu, pu, by simpa using z⟩
            · exact ⟨x', List.mem_cons_of_mem _ hx', z⟩
          · rintro ⟨x', hx', u', hu', pu', z⟩
            rcases List.mem_cons.mp hx' with rfl | hx'
            · have pu : H4 x' = _ := pu
              have pu' : H4 x' = _ := pu'
              rw [pu] at pu'
              have : u = u' := by
                obtain ⟨u1, u2⟩ := u
                obtain ⟨w1, w2⟩ := u'
                simp at pu'
                rw [pu'.1, pu'.2]
              subst this
              exact .inl (by simpa using z)
            · exact .inr ⟨x', hx', u', hu', pu', z⟩
    exact all pys
  obtain ⟨bl, rfl, hbl⟩ := bls
  have e5 : Ex H4 (upd H4 D (.lst (bl.map V.bl))) := Ex.new hD
  refine ⟨D, bl, rfl, SqL.of upd_same, ?_⟩
  generalize upd H4 D (.lst (bl.map V.bl)) = H5 at e5
  have e25 := e24.trans e5
  show if bl.any id = true then _ else _
  refine ifB (fun z => ?_) (fun z => ?_)
  · -- some point is come by twice
    obtain ⟨x, _, u, hu, _, z⟩ := hbl.mp z
    have nn : ¬ ((Sd.rim c cs).map (·.1)).Nodup := fun y => z (two.mpr y u hu)
    have := q H5 (e1.trans (e2.trans e25))
    have ir : Sd.isRing c cs = false := by
      unfold Sd.isRing Sd.ringPts Sd.ringL
      rw [if_neg nn]
      rfl
    rw [ir] at this
    exact this
  have nd : ((Sd.rim c cs).map (·.1)).Nodup := two.mp fun u hu => by
    by_cases y : (Sd.nearL (Sd.lawS c cs) u).length = 2
    · exact y
    · obtain ⟨x, hx, px⟩ := pr_mem2 ppa hu
      have := hbl.mpr ⟨x, pm.mem_iff.mpr hx, u, hu, ea' _ _ px, y⟩
      rw [z] at this
      cases this
  obtain ⟨rs, rnd, r0, hring⟩ := Sd.law_round ndc lne nd
  -- the first point
  refine ⟨N, kvs, rfl, e25 _ _ hN, fun a2 qs2 na2 pq2 => ?_⟩
  have eb : Ex H5 (upd H5 a2 (.lst (qs2.map V.ref))) := Ex.new na2
  have pp2 : Paired (PtAt (upd H5 a2 (.lst (qs2.map V.ref)))) qs2 ps := pr_map (keys_pts pq2 kk) fun _ _ z => eb _ _ z
  have sne : (Sd.rim c cs).map (·.1) ≠ [] := fun z => lne (List.map_eq_nil_iff.mp z)
  have lq2 : qs2.length = ps.length := pr_len pp2
  have mm := (Sd.minP_spec _ sne).1
  have pne : 0 < ps.length := List.length_pos_of_mem ((psr _).mpr mm)
  refine ⟨a2, qs2, ps.map fun p => [p.1, p.2], rfl, SqL.of upd_same, pts_ints pp2, by omega, fun i b ns hb1 hn1 hmin => ?_⟩
  rw [List.getElem?_map] at hn1
  obtain ⟨p0, hp0, rfl⟩ := Option.map_eq_some_iff.mp hn1
  have mem0 : p0 ∈ ps := List.mem_of_getElem? hp0
  have e0 : p0 = Sd.minP ((Sd.rim c cs).map (·.1)) := Sd.minP_only ((psr p0).mp mem0) fun u hu => by
    have := hmin [u.1, u.2] (List.mem_map.mpr ⟨u, (psr u).mpr hu, rfl⟩)
    rw [lex_pt] at this
    exact this
  have pb : PtAt (upd H5 a2 (.lst (qs2.map V.ref))) b p0 := by
    obtain ⟨p', h1, h2⟩ := pairedAt pp2 hb1
    rw [hp0] at h1
    cases h1
    exact h2
  generalize upd H5 a2 (.lst (qs2.map V.ref)) = H6 at eb pb
  have e26 := e25.trans eb
  rw [← e0] at r0
  obtain ⟨q1, hq1⟩ : ∃ q1, rs[1]? = some q1 := ⟨rs[1]'(by have := rnd.two; omega), List.getElem?_eq_getElem _⟩
  have n1 := rnd.one p0 q1 r0 hq1
  obtain ⟨nb, nbs, h1, h2, h3⟩ := nearAt e26 p0 mem0
  obtain ⟨c1, hc1, pc1⟩ : ∃ c1, nbs[0]? = some c1 ∧ PtAt H6 c1 q1 := by
    have hl : 0 < nbs.length := by
      rw [pr_len h3]
      exact (List.getElem?_eq_some_iff.mp n1).1
    refine ⟨nbs[0]'hl, List.getElem?_eq_getElem _, ?_⟩
    obtain ⟨y, g1, g2⟩ := pairedAt h3 (List.getElem?_eq_getElem hl)
    rw [n1] at g1
    cases g1
    exact g2
  refine ⟨N, b, ptK p0, kvs, .ref nb, rfl, rfl, .inl (e26 _ _ hN), pb, h1, _, .ref c1, .inl (SqL.of h2), atI_nat (j := 0) (by rw [List.getElem?_map, hc1]; rfl), z3, fun t ht => ⟨t, _, rfl, SqT.of upd_same, rfl, ?_⟩⟩
  have e7 : Ex H6 (upd H6 t (.tup [.ref b, .ref c1, .int 1])) := Ex.new ht
  generalize upd H6 t (.tup [.ref b, .ref c1, .int 1]) = H7 at e7
  have e27 := e26.trans e7
  have fin : ∀ k H', Ex H2 H' → rs.length = k + 1 → Q (.bl (decide (((k + 1 : Nat) : Int) = ((ts.map V.ref).length : Int)))) H' := fun k H' e' hk => by
    have := q H' (e1.trans (e2.trans e'))
    rw [hring, hk] at this
    have ed : decide (((k + 1 : Nat) : Int) = ((ts.map V.ref).length : Int)) = decide (k + 1 = (Sd.lawS c cs).length) := by
      rw [List.length_map, lts, Bool.eq_iff_iff]
      simp only [decide_eq_true_eq]
      omega
    rw [ed]
    exact this
  refine ⟨fun m σ H' => Ex H7 H' ∧ ∃ (k : Nat) (b1 b2 : Addr) (x y : Pt) (v8 : Option V), σ = [some (.ref g), some (.ref p), some (.ref S), some (.ref N), some (.ref b), some (.ref b1), some (.ref b2), some (.int ((k + 1 : Nat) : Int)), v8, none] ∧ rs[k]? = some x ∧ PtAt H' b1 x ∧ PtAt H' b2 y ∧ (rs[k + 1]? = some y ∨ rs[k + 1]? = none ∧ y = p0) ∧ m = rs.length - k,
    ⟨rs.length - 0, Ex.rfl, 0, b, c1, p0, q1, none, rfl, r0, e7 _ _ pb, e7 _ _ pc1, .inl hq1, rfl⟩, ?_⟩
  rintro m σ H' ⟨e', k, b1, b2, x, y, v8, rfl, hx, px, py, hy, rfl⟩
  have e2' := e27.trans e'
  have hk : k < rs.length := (List.getElem?_eq_some_iff.mp hx).1
  refine ⟨dPt y, dPt p0, dp_pt py, dp_pt (e' _ _ (e7 _ _ pb)), sh_pt _, sh_pt _, ?_⟩
  show if (!PyData.eqv (dPt y) (dPt p0)) = true then _ else _
  rw [eqv_pt]
  by_cases yz : y = p0
  · rw [decide_eq_true yz]
    have hlen : rs.length = k + 1 := by
      rcases hy with hy | ⟨hy, _⟩
      · rw [yz] at hy
        have hk1 := (List.getElem?_eq_some_iff.mp hy).1
        have := (List.getElem?_inj hk1 rnd.nd).mp (hy.trans r0.symm)
        omega
      · have := List.getElem?_eq_none_iff.mp hy
        omega
    refine ⟨_, .inl (SqL.of (e2' _ _ hS2)), ?_⟩
    exact fin k H' e2' hlen
  · rw [decide_eq_false yz]
    have hy1 : rs[k + 1]? = some y := by
      rcases hy with hy | ⟨_, hy⟩
      · exact hy
      · exact absurd hy yz
    have hk1 : k + 1 < rs.length := (List.getElem?_eq_some_iff.mp hy1).1
    obtain ⟨z, hz, hz1, hz2⟩ := rnd.on k x y hx hy1
    have ymem : y ∈ ps := by
      by_cases yy : y ∈ ps
      · exact yy
      · have hzm : z ∈ Sd.nearL (Sd.lawS c cs) y := (List.mem_filter.mp (by rw [hz]; exact List.mem_singleton.mpr rfl)).1
        have : y ∈ (ends2 (Sd.lawS c cs)).map (·.1) := by
          rw [mem_ends2]
          rcases Sd.mem_near.mp hzm with h | h
          · exact .inl (List.mem_map.mpr ⟨_, h, rfl⟩)
          · exact .inr (List.mem_map.mpr ⟨_, h, rfl⟩)
        exact (kp y).mpr this
    obtain ⟨mb, mbs, g1, g2, g3⟩ := nearAt e2' y ymem
    have lm : mbs.length = 2 := by rw [pr_len g3]; exact two.mpr nd y ymem
    refine ⟨fun σ' H'' => Ex H7 H'' ∧ ∃ (b3 : Addr) (v8 : Option V), σ' = [some (.ref g), some (.ref p), some (.ref S), some (.ref N), some (.ref b), some (.ref b2), some (.ref b3), some (.int ((k + 1 + 1 : Nat) : Int)), v8, none] ∧ PtAt H'' b2 y ∧ PtAt H'' b3 z, ?_, ?_⟩
    · rintro σ' H'' ⟨e'', b3, w8, rfl, py', pz⟩
      refine ⟨rs.length - (k + 1), by omega, e'', k + 1, b2, b3, y, z, w8, rfl, hy1, py', pz, ?_, rfl⟩
      cases h : rs[k + 2]? with
      | some w => exact .inl (by rw [hz1 w h])
      | none =>
        have := hz2 h
        rw [r0] at this
        exact .inr ⟨rfl, (Option.some.inj this).symm⟩
    · refine ⟨N, b2, ptK y, kvs, .ref mb, rfl, rfl, .inl (e2' _ _ hN), py, g1, mb, rfl, ⟨_, SqL.of g2⟩, lcF (K := K) (m := Sd.nearL (Sd.lawS c cs) y) (fun u => !decide (u = x)) (SqL.of g2) (pr_len g3) (by rw [lm]; exact line_ge (by omega)) (fun _ => rfl) ?_ (fun b H'' F h => h) ?_⟩
      · intro i u w hu hw H'' e'' F hF
        obtain ⟨w', i1, i2⟩ := pairedAt g3 hu
        rw [hw] at i1
        cases i1
        refine ⟨dPt w, dPt x, dp_pt (e'' _ _ i2), dp_pt (e'' _ _ px), sh_pt _, sh_pt _, ?_⟩
        have := hF H'' Ex.rfl
        show F (!PyData.eqv (dPt w) (dPt x)) H''
        rw [eqv_pt]
        exact this
      · intro R H'' nR e'' hR
        have pz := fz_pr (fun u => !decide (u = x)) g3
        rw [hz] at pz
        obtain ⟨b3, hb3, pb3⟩ : ∃ b3, fz (fun u => !decide (u = x)) mbs (Sd.nearL (Sd.lawS c cs) y) = [b3] ∧ PtAt H' b3 z := by
          match hf : fz (fun u => !decide (u = x)) mbs (Sd.nearL (Sd.lawS c cs) y), pz with
          | [b3], .cons h .nil => exact ⟨b3, rfl, h⟩
        rw [hb3] at hR
        refine ⟨_, .ref b3, .inl (SqL.of hR), atI_nat (j := 0) rfl, z3, fun t2 ht2 => ⟨t2, _, rfl, SqT.of upd_same, rfl, ?_⟩⟩
        have e8 : Ex H'' (upd H'' t2 (.tup [.ref b2, .ref b3, .int (((k + 1 : Nat) : Int) + 1)])) := Ex.new ht2
        refine ⟨e'.trans (e''.trans e8), b3, some (.ref R), ?_, e8 _ _ (e'' _ _ py), e8 _ _ (e'' _ _ pb3)⟩
        rfl
end Sx
set_option Elab.async false
set_option linter.all false
set_option maxRecDepth 100000
set_option maxHeartbeats 4000000
namespace Sx
open PySem L2 L2.IR
variable {K : PySem.W.Frag}
theorem lcRG {n : Nat} {k : Nat} {tt : TT} {te : TE} {vs : List Nat} {σ : St} {H1 : Hp} {Qd : Addr → Hp → Prop} (p : Int → Bool) (hlen : n < sizeLine)
    (hw : ∀ x, wipe ((wipe σ vs).set k (some x)) vs = wipe σ vs)
    (test : ∀ i : Nat, i < n → ∀ H', Ex H1 H' → ∀ F : Bool → Hp → Prop, F (p i) H' → tt ((wipe σ vs).set k (some (.int (0 + (i : Int))))) H' F)
    (elt : ∀ (i : Nat) H' (F : V → Hp → Prop), F (.int i) H' → te ((wipe σ vs).set k (some (.int (0 + (i : Int))))) H' F)
    (hq : ∀ D, H1 D = none → Qd D (upd H1 D (.lst (iv (((List.range n).map Int.ofNat).filter p))))) :
    ∀ D, H1 D = none → ∃ W : Nat → Nat → Hp → Prop, (∃ m, W 0 m (upd H1 D (.lst []))) ∧ ∀ i m H, W i m H →
      ((Itr 0 n).stop i H ∧ Qd D H) ∨ ((Itr 0 n).go i H ∧ ∃ Nx : Hp → Prop, (∀ H', Nx H' → ∃ m', m' < m ∧ W (i + 1) m' H') ∧ ∀ x H', (Itr 0 n).yld i H x H' → gW K [k] true x (wipe σ vs) H' fun σ2 H2 => wipe σ2 vs = wipe σ vs ∧ tt σ2 H2 fun b H3 =>
        if b = true then te σ2 H3 fun y H4 => ∃ acc, H4 D = some (.lst acc) ∧ acc.length < sizeLine ∧ Nx (upd H4 D (.lst (acc ++ [y]))) else Nx H3) := by
  intro D hD
  refine lc_range (g := gW K [k] true) (fun i H => H = upd H1 D (.lst (iv (((List.range i).map Int.ofNat).filter p)))) rfl ?_ ?_
  · rintro i H hi rfl
    have ext : Ex H1 (upd H1 D (.lst (iv (((List.range i).map Int.ofNat).filter p)))) := Ex.new hD
    refine ⟨hw _, test i hi _ ext _ ?_⟩
    refine ifB (fun hp => elt i _ _ ⟨_, upd_same, ?_, ?_⟩) (fun hp => ?_)
    · rw [iv_len]
      refine Nat.lt_of_le_of_lt (List.length_filter_le _ _) ?_
      rw [List.length_map, List.length_range]
      omega
    · show upd _ _ _ = _
      rw [upd_upd, List.range_succ, List.map_append, List.filter_append, iv_app]
      have e1 : [Int.ofNat i].filter p = [Int.ofNat i] := by
        have : p (Int.ofNat i) = true := hp
        rw [List.filter_cons, if_pos this, List.filter_nil]
      show upd H1 D (.lst (_ ++ [V.int (Int.ofNat i)])) = upd H1 D (.lst (_ ++ iv ([Int.ofNat i].filter p)))
      rw [e1]
      rfl
    · show upd _ _ _ = _
      rw [List.range_succ, List.map_append, List.filter_append, iv_app]
      have e1 : [Int.ofNat i].filter p = [] := by
        have : ¬ p (Int.ofNat i) = true := by rw [show p (Int.ofNat i) = false from hp]; exact Bool.false_ne_true
        rw [List.filter_cons, if_neg this, List.filter_nil]
      show _ = upd H1 D (.lst (_ ++ iv ([Int.ofNat i].filter p)))
      rw [e1]
      show _ = upd H1 D (.lst (_ ++ []))
      rw [List.append_nil]
  · rintro H rfl
    exact hq D hD
theorem cut63 (ns : List Int) (h : ns.length ≤ 63) : cutV (iv ns) none (some 63) = iv ns := by
  unfold cutV
  have e1 : HT.sIx (iv ns).length 0 none = 0 := rfl
  have e2 : HT.sIx (iv ns).length (iv ns).length (some 63) = ns.length := by
    rw [show (63 : Int) = ((63 : Nat) : Int) from rfl, HT.sIx_nat, iv_len]
    omega
  rw [e1, e2, List.drop_zero, Nat.sub_zero, List.take_of_length_le (by rw [iv_len]; exact Nat.le_refl _)]
theorem dpRows {H : Hp} {D : Addr} {as : List Addr} {m : List (List Int)} (hd : H D = some (.lst (as.map V.ref))) (pr : Paired (LAt H) as m) : Dp K H (.ref D) (dM m) := by
  refine .lst (SqL.of hd) ?_
  clear hd
  induction pr with
  | nil => exact .nil
  | cons h _ ih => exact .cons (dp_I (SqL.of h)) ih
def drq : Nat → Ss → Ss
  | 0, s => s
  | n + 1, .cons _ ss => drq n ss
  | _ + 1, .nil => .nil
def bodyQ : Ss → Ss
  | .cons (.for _ _ _ b) _ => b
  | _ => .nil
theorem prZ {H : Hp} : ∀ {zs : List (Addr × List Int)}, (∀ p ∈ zs, LAt H p.1 p.2) → Paired (LAt H) (zs.map (·.1)) (zs.map (·.2))
  | [], _ => .nil
  | p :: zs, h => .cons (h p List.mem_cons_self) (prZ fun q hq => h q (List.mem_cons_of_mem _ hq))
def dueT (m : Nat) (c : Int) (i : Nat) : List (List Int) := ((List.range' 1 i).map (bitsL m)).filter (Sd.isRing c)
theorem dueT_succ (m : Nat) (c : Int) (i : Nat) : dueT m c (i + 1) = dueT m c i ++ (if Sd.isRing c (bitsL m (1 + i)) = true then [bitsL m (1 + i)] else []) := by
  unfold dueT
  rw [List.range'_1_concat, List.map_append, List.filter_append]
  congr 1
  rw [List.map_singleton, List.filter_cons, List.filter_nil]
theorem dueT_len (m : Nat) (c : Int) (i : Nat) : (dueT m c i).length ≤ i := by
  unfold dueT
  refine Nat.le_trans (List.length_filter_le _ _) ?_
  rw [List.length_map, List.length_range']
  exact Nat.le_refl _
theorem bits_at (m i : Nat) : ((List.range m).map Int.ofNat).filter (fun x => decide ((1 + (i : Int)) / 2 ^ x.toNat % 2 = 1)) = bitsL m (1 + i) := by
  unfold bitsL
  rw [show ((1 + i : Nat) : Int) = 1 + (i : Int) from by omega]
theorem two9 {m : Nat} (h : m ≤ 9) : 2 ^ m ≤ 512 := by
  have : 2 ^ m ≤ 2 ^ 9 := Nat.pow_le_pow_right (by decide) h
  exact this
structure Gath (H0 H : Hp) (L : Addr) (m : Nat) (c : Int) (i : Nat) (ps : List (Addr × List Int)) : Prop where
  ex : Ex H0 H
  l : H L = some (.lst ((ps.map (·.1)).map V.ref))
  at' : ∀ p ∈ ps, LAt H p.1 p.2
  ne : ∀ p ∈ ps, p.1 ≠ L
  due : ps.map (·.2) = dueT m c i
theorem Gath.nil {H0 : Hp} {L : Addr} {m : Nat} {c : Int} (h : H0 L = none) : Gath H0 (upd H0 L (.lst [])) L m c 0 [] := ⟨Ex.new h, upd_same, fun _ h => (nomatch h), fun _ h => (nomatch h), rfl⟩
theorem Gath.ext {H0 H H' : Hp} {L : Addr} {m : Nat} {c : Int} {i : Nat} {ps : List (Addr × List Int)} (g : Gath H0 H L m c i ps) (e : Ex H H') : Gath H0 H' L m c i ps := ⟨g.ex.trans e, e _ _ g.l, fun p hp => e _ _ (g.at' p hp), g.ne, g.due⟩
theorem Gath.skip {H0 H : Hp} {L : Addr} {m : Nat} {c : Int} {i : Nat} {ps : List (Addr × List Int)} (g : Gath H0 H L m c i ps) (h : Sd.isRing c (bitsL m (1 + i)) = false) : Gath H0 H L m c (i + 1) ps := ⟨g.ex, g.l, g.at', g.ne, by rw [dueT_succ, h, g.due]; simp⟩
theorem Gath.more {H0 H : Hp} {L b : Addr} {m : Nat} {c : Int} {i : Nat} {ps : List (Addr × List Int)} (g : Gath H0 H L m c i ps) (hL : H0 L = none) (hb : LAt H b (bitsL m (1 + i))) (nb : b ≠ L) (h : Sd.isRing c (bitsL m (1 + i)) = true) :
    Gath H0 (upd H L (.lst ((ps.map (·.1)).map V.ref ++ [.ref b]))) L m c (i + 1) (ps ++ [(b, bitsL m (1 + i))]) := by
  refine ⟨g.ex.put hL, ?_, fun p hp => ?_, fun p hp => ?_, ?_⟩
  · rw [upd_same]
    simp
  · have ne : p.1 ≠ L := by
      rcases List.mem_append.mp hp with hp | hp
      · exact g.ne p hp
      · rw [List.mem_singleton.mp hp]
        exact nb
    show upd _ _ _ _ = _
    rw [upd_ne ne]
    rcases List.mem_append.mp hp with hp | hp
    · exact g.at' p hp
    · rw [List.mem_singleton.mp hp]
      exact hb
  · rcases List.mem_append.mp hp with hp | hp
    · exact g.ne p hp
    · rw [List.mem_singleton.mp hp]
      exact nb
  · rw [dueT_succ, h, List.map_append, g.due]
    rfl
theorem Gath.len {H0 H : Hp} {L : Addr} {m : Nat} {c : Int} {i : Nat} {ps : List (Addr × List Int)} (g : Gath H0 H L m c i ps) : ps.length ≤ i := by
  have h1 := congrArg List.length g.due
  have h2 := dueT_len m c i
  rw [List.length_map] at h1
  omega
theorem Gath.done {H0 H : Hp} {L S : Addr} {r c : Int} {ps zs : List (Addr × List Int)} (ok : Okg r c) (nine : r * c ≤ 9) (g : Gath H0 H L (r * c).toNat c (2 ^ (r * c).toNat - 1) ps) (hp : zs.Perm ps) (up : PyProof.Rows.Sm.Up zs) (hS : H S = none) :
    Ex H0 (upd H S (.lst ((zs.map (·.1)).map V.ref))) ∧ Ck (upd H S (.lst ((zs.map (·.1)).map V.ref))) S (zs.map (·.1)) (ringsM r c) := by
  have m36 := mul36 ok
  refine ⟨g.ex.trans (Ex.new hS), upd_same, ?_⟩
  have e : zs.map (·.2) = ringsM r c := by
    refine sorted_rings (by omega) (by omega) (Sd.isRing c) ?_ up
    have := hp.map (·.2)
    rw [g.due] at this
    exact this
  rw [← e]
  exact prZ fun p hq => (Ex.new hS) _ _ (g.at' p (hp.mem_iff.mp hq))
end Sx
set_option Elab.async false
set_option linter.all false
set_option maxRecDepth 100000
set_option maxHeartbeats 4000000
namespace Sx
open PySem L2 L2.IR
variable {K : PySem.W.Frag}
theorem l4_turn {D : Ends} {H0 H : Hp} {s g L : Addr} {w r c : Int} {i : Nat} {ps : List (Addr × List Int)} {v6 v7 v8 v9 : Option V} (ok : Okg r c) (nine : r * c ≤ 9) (hg : G H0 g r c) (hL : H0 L = none) (gt : Gath H0 H L (r * c).toNat c i ps) (hi : i < 2 ^ (r * c).toNat - 1)
    (nxt : ∀ H' ps' v6 v9, Gath H0 H' L (r * c).toNat c (i + 1) ps' → D.nx [some (.ref s), some (.int w), some (.ref g), some (.int (r * c)), some (.ref L), some (.int (1 + (i : Int))), v6, v7, v8, v9] H') :
    wpSs K (Γ K) gv (bodyQ (drq 3 ir_law)) D [some (.ref s), some (.int w), some (.ref g), some (.int (r * c)), some (.ref L), some (.int (1 + (i : Int))), v6, v7, v8, v9] H := by
  have m36 := mul36 ok
  have p9 := two9 (nine_nat ok nine)
  have lp := gt.len
  refine ⟨⟨by omega, by omega⟩, lcRG (K := K) (n := (r * c).toNat) (fun x => decide ((1 + (i : Int)) / 2 ^ x.toNat % 2 = 1)) (line_ge (by omega)) (fun _ => rfl) ?_ ?_ ?_⟩
  · intro j hj H' e' F hF
    refine ⟨by omega, by decide, ?_⟩
    rw [Int.zero_add]
    exact hF
  · intro j H' F hF
    show F (.int (0 + (j : Int))) H'
    rw [Int.zero_add]
    exact hF
  · intro b hb
    rw [bits_at]
    have e1 : Ex H (upd H b (.lst (iv (bitsL (r * c).toNat (1 + i))))) := Ex.new hb
    have b1 : LAt (upd H b (.lst (iv (bitsL (r * c).toNat (1 + i))))) b (bitsL (r * c).toNat (1 + i)) := upd_same
    have nb : b ≠ L := by
      rintro rfl
      rw [gt.l] at hb
      cases hb
    generalize upd H b (.lst (iv (bitsL (r * c).toNat (1 + i)))) = H1 at e1 b1
    have gt1 := gt.ext e1
    have mem : bitsL (r * c).toNat (1 + i) ∈ allC (r * c).toNat := (bits_allC (by omega) (nine_nat ok nine) (List.mem_range'.mpr ⟨i, hi, by omega⟩)).1
    refine ⟨g, b, r, c, _, rfl, gt1.ex _ _ hg, ok, b1, allC_ok ok mem, fun H2 e2 => ?_⟩
    have gt2 := gt1.ext e2
    refine ifB (fun h => ?_) (fun h => ?_)
    · exact ⟨⟨L, _, rfl, gt2.l⟩, L, _, rfl, gt2.l, by rw [List.length_map, List.length_map]; exact line_ge (by omega), nxt _ _ _ _ (gt2.more hL (e2 _ _ b1) nb h)⟩
    · exact nxt _ _ _ _ (gt2.skip h)
theorem all_true (l : List V) : ∃ bs : List Bool, (l.filter fun _ => true).map (fun _ => V.bl true) = bs.map V.bl ∧ bs.all id = true := by
  induction l with
  | nil => exact ⟨[], rfl, rfl⟩
  | cons x l ih =>
    obtain ⟨bs, h1, h2⟩ := ih
    refine ⟨true :: bs, ?_, by simpa using h2⟩
    rw [List.filter_cons, if_pos rfl, List.map_cons, h1]
    rfl
structure Bent (H0 H : Hp) (D : Addr) (as : List Addr) (m : List (List Int)) (i : Nat) : Prop where
  ex : Ex H0 H
  d : H D = some (.lst (as.map V.ref))
  rest : ∀ (j : Nat) (a : Addr) (x : List Int), i ≤ j → as[j]? = some a → m[j]? = some x → LAt H a x
theorem Bent.of {H0 H : Hp} {D : Addr} {as : List Addr} {m : List (List Int)} (e : Ex H0 H) (R : Rows H0 H D as m) : Bent H0 H D as m 0 := ⟨e, R.d, fun j a x _ h1 h2 => R.rows j a x h1 h2⟩
theorem Bent.ext {H0 H H' : Hp} {D : Addr} {as : List Addr} {m : List (List Int)} {i : Nat} (b : Bent H0 H D as m i) (e : Ex H H') : Bent H0 H' D as m i := ⟨b.ex.trans e, e _ _ b.d, fun j a x h0 h1 h2 => e _ _ (b.rest j a x h0 h1 h2)⟩
theorem Bent.step {H0 H H1 : Hp} {D a : Addr} {as : List Addr} {m : List (List Int)} {i : Nat} {o : HO} (R : Rows H0 H1 D as m) (b : Bent H0 H D as m i) (ha : as[i]? = some a) : Bent H0 (upd H a o) D as m (i + 1) := by
  have am := List.mem_of_getElem? ha
  refine ⟨b.ex.put (R.new a am), ?_, fun j a' x hj h1 h2 => ?_⟩
  · rw [upd_ne]
    · exact b.d
    · rintro rfl
      exact R.nD am
  · have ne : a' ≠ a := by
      rintro rfl
      have hi := (List.getElem?_eq_some_iff.mp ha).1
      have hj' := (List.getElem?_eq_some_iff.mp h1).1
      have z := (List.pairwise_iff_getElem.mp R.nd) i j hi hj' (by omega)
      rw [(List.getElem?_eq_some_iff.mp ha).2, (List.getElem?_eq_some_iff.mp h1).2] at z
      exact z rfl
    show upd _ _ _ _ = _
    rw [upd_ne ne]
    exact b.rest j a' x (by omega) h1 h2
theorem okc_len9 {m : Int} {cs : List Int} (h9 : m ≤ 9) (oc : Okc m cs) : cs.length ≤ 1000 := by
  have : cs.length ≤ ((List.range m.toNat).map Int.ofNat).length := by
    have nd : cs.Nodup := oc.up.imp fun h => Int.ne_of_lt h
    refine List.Nodup.length_le_of_subset nd fun x hx => ?_
    have h1 := oc.lo x hx
    have h2 := oc.hi x hx
    exact List.mem_map.mpr ⟨x.toNat, List.mem_range.mpr (by omega), by show ((x.toNat : Nat) : Int) = x; omega⟩
  rw [List.length_map, List.length_range] at this
  omega
theorem l4_again {D : Ends} {H : Hp} {s g S : Addr} {w r c k : Int} {bs : List Addr} {v5 v6 v8 v9 : Option V} (ok : Okg r c) (nine : r * c ≤ 9) (hg : G H g r c) (hS : Ck H S bs (ringsM r c))
    (nxt : ∀ H' v6 v8, Ex H H' → D.nx [some (.ref s), some (.int w), some (.ref g), some (.int (r * c)), some (.ref S), v5, v6, some (.int k), v8, v9] H') :
    wpSs K (Γ K) gv (bodyQ (drq 5 ir_law)) D [some (.ref s), some (.int w), some (.ref g), some (.int (r * c)), some (.ref S), v5, v6, some (.int k), v8, v9] H := by
  refine ⟨g, r, c, rfl, hg, ok, nine, fun F as H1 e1 R => ?_⟩
  have l511 : as.length ≤ 511 := by
    rw [R.len]
    refine Nat.le_trans (List.length_filter_le _ _) (allC_len (nine_nat ok nine))
  have rest : ∀ H' v6', Ex H1 H' → wpSs K (Γ K) gv (drq 2 (bodyQ (drq 5 ir_law))) D [some (.ref s), some (.int w), some (.ref g), some (.int (r * c)), some (.ref S), v5, v6', some (.int k), some (.ref F), v9] H' := by
    intro H' v6' e'
    have b0 : Bent H H' F as (ringsM r c) 0 := (Bent.of e1 R).ext e'
    refine ⟨F, rfl, ⟨_, SqL.of b0.d⟩, for_list (K := K) (a := F) (xs := as.map V.ref) (g := gW K [6] true) (fun i σ H2 => Bent H H2 F as (ringsM r c) i ∧ ∃ v6, σ = [some (.ref s), some (.int w), some (.ref g), some (.int (r * c)), some (.ref S), v5, v6, some (.int k), some (.ref F), v9]) ⟨b0, _, rfl⟩ ?_ ?_ ?_⟩
    · rintro i σ H2 _ ⟨b, _⟩
      exact SqL.of b.d
    · rintro i x σ H2 hx ⟨b, v6, rfl⟩
      obtain ⟨a, rfl, ha⟩ := ref_get hx
      have hi := (List.getElem?_eq_some_iff.mp ha).1
      have hm : (ringsM r c)[i]? = some ((ringsM r c)[i]'(by rw [← R.len]; exact hi)) := List.getElem?_eq_getElem _
      have la := b.rest i a _ (Nat.le_refl _) ha hm
      have mem := List.mem_of_getElem? hm
      have oc : Okc (r * c) ((ringsM r c)[i]'(by rw [← R.len]; exact hi)) := allC_ok ok (List.mem_filter.mp mem).1
      exact ⟨⟨a, _, rfl, la⟩, a, _, rfl, la, by rw [iv_len]; exact line_ge (okc_len9 nine oc), b.step R ha, _, rfl⟩
    · rintro σ H2 ⟨b, v6, rfl⟩
      refine ⟨⟨F, _, rfl, b.d⟩, Nat.zero_le _, fun t ht => ⟨F, _, rfl, (Ex.new ht) _ _ b.d, by rw [List.length_map]; exact line_ge (by omega), nxt _ _ _ ?_⟩⟩
      exact (b.ex.trans (Ex.new ht)).put R.d0
  have hS1 := hS.ex e1
  have hF1 : Ck H1 F as (ringsM r c) := ⟨R.d, R.pr⟩
  refine ⟨.list, .lst R.d, dM (ringsM r c), dM (ringsM r c), dpRows hF1.a hF1.r, dpRows hS1.a hS1.r, sh_M _, sh_M _, ?_⟩
  show if (!PyData.eqv (dM (ringsM r c)) (dM (ringsM r c))) = true then _ else _
  rw [eqv_MM, decide_eq_true rfl]
  refine ⟨F, rfl, ⟨_, SqL.of R.d⟩, lcP (K := K) (a := F) (xs := as.map V.ref) (fun _ => true) (fun _ => .bl true) (SqL.of R.d) (by rw [List.length_map]; exact line_ge (by omega)) (fun _ => rfl) (fun _ _ _ _ _ h => h) ?_ ?_⟩
  · intro x hx _ H' e' Fq hq
    obtain ⟨a, ha, rfl⟩ := List.mem_map.mp hx
    obtain ⟨i, hi⟩ := List.getElem?_of_mem ha
    obtain ⟨y, _, ly⟩ := hF1.get hi
    exact ⟨.list, .lst (e' _ _ ly), hq⟩
  · intro T hT
    obtain ⟨bl, h1, h2⟩ := all_true (as.map V.ref)
    refine ⟨T, bl, rfl, SqL.of (by rw [upd_same, h1]), ?_⟩
    rw [h2]
    exact rest _ _ (Ex.new hT)
theorem ring12 : ringsM 1 2 = [[0], [0, 1], [1]] := by decide +kernel
theorem ring22 : (ringsM 2 2).length = 13 := by decide +kernel
theorem l4_end {Q : VK} {H : Hp} {v0 v1 v2 v3 v4 v5 v6 v7 v8 v9 : Option V} (q : ∀ H', Q (.bl true) H') :
    wpSs K (Γ K) gv (drq 6 ir_law) (ends Q) [v0, v1, v2, v3, v4, v5, v6, v7, v8, v9] H := by
  refine ⟨z2, fun t ht => ⟨t, 1, 2, rfl, upd_same, ⟨by decide, by decide, by decide, by decide⟩, by decide, fun F as H1 e1 R => ?_⟩⟩
  have hF : Ck H1 F as [[0], [0, 1], [1]] := by
    have : Ck H1 F as (ringsM 1 2) := ⟨R.d, R.pr⟩
    rw [ring12] at this
    exact this
  refine ⟨z1, fun b0 k0 => ⟨z2, fun b1 k1 => ⟨z1, fun b2 k2 => ⟨z3, fun B kB => ?_⟩⟩⟩⟩
  have x0 : LAt (upd H1 b0 (.lst [.int 0])) b0 [0] := upd_same
  have y0 : Ex H1 (upd H1 b0 (.lst [.int 0])) := Ex.new k0
  generalize upd H1 b0 (.lst [.int 0]) = G0 at *
  have x1 : LAt (upd G0 b1 (.lst [.int 0, .int 1])) b1 [0, 1] := upd_same
  have y1 : Ex G0 (upd G0 b1 (.lst [.int 0, .int 1])) := Ex.new k1
  generalize upd G0 b1 (.lst [.int 0, .int 1]) = G1 at *
  have x2 : LAt (upd G1 b2 (.lst [.int 1])) b2 [1] := upd_same
  have y2 : Ex G1 (upd G1 b2 (.lst [.int 1])) := Ex.new k2
  generalize upd G1 b2 (.lst [.int 1]) = G2 at *
  have x3 : upd G2 B (.lst [.ref b0, .ref b1, .ref b2]) B = some (.lst (([b0, b1, b2] : List Addr).map V.ref)) := upd_same
  have y3 : Ex G2 (upd G2 B (.lst [.ref b0, .ref b1, .ref b2])) := Ex.new kB
  generalize upd G2 B (.lst [.ref b0, .ref b1, .ref b2]) = G3 at *
  have hF3 := hF.ex (y0.trans (y1.trans (y2.trans y3)))
  refine ⟨dM [[0], [0, 1], [1]], dM [[0], [0, 1], [1]], dpRows hF3.a hF3.r, dpRows x3 (.cons (x0.ex (y1.trans (y2.trans y3))) (.cons (x1.ex (y2.trans y3)) (.cons (x2.ex y3) .nil))), sh_M _, sh_M _, ?_⟩
  rw [eqv_MM, decide_eq_true rfl]
  refine ⟨z2, fun t2 ht2 => ⟨t2, 2, 2, rfl, upd_same, ⟨by decide, by decide, by decide, by decide⟩, by decide, fun F2 as2 H2 e2 R2 => ⟨as2.map V.ref, .inl (SqL.of R2.d), ?_⟩⟩⟩
  show Q (.bl (decide (((as2.map V.ref).length : Int) = 13))) H2
  rw [List.length_map, R2.len, ring22]
  exact q _
theorem l4_main {Q : VK} {H : Hp} {s g : Addr} {w r c : Int} (ok : Okg r c) (nine : r * c ≤ 9) (hg : G H g r c) (q : ∀ H', Q (.bl true) H') :
    wpSs K (Γ K) gv (drq 2 ir_law) (ends Q) [some (.ref s), some (.int w), some (.ref g), none, none, none, none, none, none, none] H := by
  have m36 := mul36 ok
  obtain ⟨r1, r6, c1, c6⟩ := id ok
  have p9 := two9 (nine_nat ok nine)
  have pw : (1 : Int) * 2 ^ (r * c).toNat = ((2 ^ (r * c).toNat : Nat) : Int) := by
    rw [Int.one_mul]
    exact (Int.natCast_pow 2 _).symm
  refine ⟨_, .int r, .inr (SqT.of hg), rfl, _, .int c, .inr (SqT.of hg), rfl, mulOk (by omega) (by omega), Nat.zero_le _, fun L hL => ⟨⟨by omega, by omega, by decide⟩, ?_⟩⟩
  have p1 : 1 ≤ 2 ^ (r * c).toNat := Nat.pow_pos (by decide)
  rw [pw]
  refine ⟨⟨by decide, by decide, by omega, by omega⟩, ?_⟩
  rw [show (((2 ^ (r * c).toNat : Nat) : Int) - 1).toNat = 2 ^ (r * c).toNat - 1 from by omega]
  refine for_range (lo := 1) (n := 2 ^ (r * c).toNat - 1) (g := gW K [5] true) (fun i σ H' => ∃ ps v5 v6 v9, Gath H H' L (r * c).toNat c i ps ∧ σ = [some (.ref s), some (.int w), some (.ref g), some (.int (r * c)), some (.ref L), v5, v6, none, none, v9]) ⟨[], none, none, none, Gath.nil hL, rfl⟩ ?_ ?_
  · rintro i σ H' hi ⟨ps, v5, v6, v9, gt, rfl⟩
    exact l4_turn ok nine hg hL gt hi fun H'' ps' v6 v9 gt' => ⟨ps', _, v6, v9, gt', rfl⟩
  · rintro σ H' ⟨ps, v5, v6, v9, gt, rfl⟩
    refine .inr ⟨L, ps, rfl, SqL.of gt.l, fun p hp => gt.at' p hp, fun zs S hp up hS => ?_⟩
    obtain ⟨e1, ck⟩ := gt.done ok nine hp up hS
    generalize upd H' S (.lst ((zs.map (·.1)).map V.ref)) = H1 at e1 ck
    refine ⟨⟨by decide, by decide⟩, for_range (lo := 0) (n := 2) (g := gW K [7] true) (fun i σ H' => Ex H1 H' ∧ ∃ v6 v7 v8, σ = [some (.ref s), some (.int w), some (.ref g), some (.int (r * c)), some (.ref S), v5, v6, v7, v8, v9]) ⟨Ex.rfl, _, _, _, rfl⟩ ?_ ?_⟩
    · rintro i σ H2 hi ⟨e2, w6, w7, w8, rfl⟩
      exact l4_again ok nine (e2 _ _ (e1 _ _ hg)) (ck.ex e2) fun H3 w6 w8 e3 => ⟨e2.trans e3, w6, _, w8, rfl⟩
    · rintro σ H2 ⟨e2, w6, w7, w8, rfl⟩
      exact l4_end q
theorem b_law : ∀ vs H Q E, sp_law K vs H Q E → wpSs K (Γ K) gv ir_law (ends Q) (start N_law vs) H := by
  rintro vs H Q E ⟨s, ns, rfl, hs, hl, q⟩
  refine ⟨_, hs, fun t ht => ⟨t, ns, rfl, SqL.of (by rw [upd_same, cut63 ns hl]; rfl), by decide, ?_⟩⟩
  show if decide (ns.sum % 64 = 5) = true then _ else _
  refine ifB (fun _ => ⟨z2, fun g hg => ?_⟩) (fun _ => ⟨ns.sum, 6, rfl, by decide, fun g r c H1 e1 ng hg ok le => ?_⟩)
  · exact l4_main (r := 3) (c := 3) ⟨by decide, by decide, by decide, by decide⟩ (by decide) upd_same q
  · exact l4_main ok (by omega) hg q
end Sx
set_option Elab.async false
set_option linter.all false
set_option maxRecDepth 100000
set_option maxHeartbeats 4000000
namespace Sx
open PySem L2 L2.IR
def spL (K : PySem.W.Frag) : Sp := sp_law K
theorem lawS : ∀ (K : PySem.W.Frag) (H : Hp) (a : Addr) (ns : List Int), ns.length ≤ 63 → (∀ x ∈ ns, Bits x) → SqL K H a (ns.map V.int) → spL K [.ref a] H (fun v _ => v = .bl true) fun _ _ _ => False := by
  intro K H a ns hl hb hs
  exact ⟨a, ns, rfl, hs, hl, fun _ => rfl⟩
theorem ln0 {K : PySem.W.Frag} : ∀ vs H Q E, Γ K 0 vs H Q E → vs.length = (["value"] : List Str).length := by intro vs H Q E h; repeat (first | exact h.elim | (obtain ⟨rfl, _⟩ := h; rfl; done) | obtain ⟨_, h⟩ := h)
theorem ln1 {K : PySem.W.Frag} : ∀ vs H Q E, Γ K 1 vs H Q E → vs.length = (["value"] : List Str).length := by intro vs H Q E h; repeat (first | exact h.elim | (obtain ⟨rfl, _⟩ := h; rfl; done) | obtain ⟨_, h⟩ := h)
theorem ln2 {K : PySem.W.Frag} : ∀ vs H Q E, Γ K 2 vs H Q E → vs.length = (["value"] : List Str).length := by intro vs H Q E h; repeat (first | exact h.elim | (obtain ⟨rfl, _⟩ := h; rfl; done) | obtain ⟨_, h⟩ := h)
theorem ln3 {K : PySem.W.Frag} : ∀ vs H Q E, Γ K 3 vs H Q E → vs.length = (["grid"] : List Str).length := by intro vs H Q E h; repeat (first | exact h.elim | (obtain ⟨rfl, _⟩ := h; rfl; done) | obtain ⟨_, h⟩ := h)
theorem ln4 {K : PySem.W.Frag} : ∀ vs H Q E, Γ K 4 vs H Q E → vs.length = (["columns", "cell"] : List Str).length := by intro vs H Q E h; repeat (first | exact h.elim | (obtain ⟨rfl, _⟩ := h; rfl; done) | obtain ⟨_, h⟩ := h)
theorem ln5 {K : PySem.W.Frag} : ∀ vs H Q E, Γ K 5 vs H Q E → vs.length = (["columns", "cells"] : List Str).length := by intro vs H Q E h; repeat (first | exact h.elim | (obtain ⟨rfl, _⟩ := h; rfl; done) | obtain ⟨_, h⟩ := h)
theorem ln6 {K : PySem.W.Frag} : ∀ vs H Q E, Γ K 6 vs H Q E → vs.length = (["grid", "cells"] : List Str).length := by intro vs H Q E h; repeat (first | exact h.elim | (obtain ⟨rfl, _⟩ := h; rfl; done) | obtain ⟨_, h⟩ := h)
theorem ln7 {K : PySem.W.Frag} : ∀ vs H Q E, Γ K 7 vs H Q E → vs.length = (["grid", "cells"] : List Str).length := by intro vs H Q E h; repeat (first | exact h.elim | (obtain ⟨rfl, _⟩ := h; rfl; done) | obtain ⟨_, h⟩ := h)
theorem ln8 {K : PySem.W.Frag} : ∀ vs H Q E, Γ K 8 vs H Q E → vs.length = (["grid"] : List Str).length := by intro vs H Q E h; repeat (first | exact h.elim | (obtain ⟨rfl, _⟩ := h; rfl; done) | obtain ⟨_, h⟩ := h)
theorem ln9 {K : PySem.W.Frag} : ∀ vs H Q E, Γ K 9 vs H Q E → vs.length = (["grid"] : List Str).length := by intro vs H Q E h; repeat (first | exact h.elim | (obtain ⟨rfl, _⟩ := h; rfl; done) | obtain ⟨_, h⟩ := h)
theorem ln10 {K : PySem.W.Frag} : ∀ vs H Q E, Γ K 10 vs H Q E → vs.length = (["grid"] : List Str).length := by intro vs H Q E h; repeat (first | exact h.elim | (obtain ⟨rfl, _⟩ := h; rfl; done) | obtain ⟨_, h⟩ := h)
theorem ln11 {K : PySem.W.Frag} : ∀ vs H Q E, Γ K 11 vs H Q E → vs.length = (["_law_number", "_law_most"] : List Str).length := by intro vs H Q E h; repeat (first | exact h.elim | (obtain ⟨rfl, _⟩ := h; rfl; done) | obtain ⟨_, h⟩ := h)
theorem ln12 {K : PySem.W.Frag} : ∀ vs H Q E, Γ K 12 vs H Q E → vs.length = (["_law_grid_here", "_law_cells"] : List Str).length := by intro vs H Q E h; repeat (first | exact h.elim | (obtain ⟨rfl, _⟩ := h; rfl; done) | obtain ⟨_, h⟩ := h)
theorem ln13 {K : PySem.W.Frag} : ∀ vs H Q E, Γ K 13 vs H Q E → vs.length = (["_law_sides_here"] : List Str).length := by intro vs H Q E h; repeat (first | exact h.elim | (obtain ⟨rfl, _⟩ := h; rfl; done) | obtain ⟨_, h⟩ := h)
theorem ln14 {K : PySem.W.Frag} : ∀ vs H Q E, Γ K 14 vs H Q E → vs.length = (["_law_grid_here", "_law_cells"] : List Str).length := by intro vs H Q E h; repeat (first | exact h.elim | (obtain ⟨rfl, _⟩ := h; rfl; done) | obtain ⟨_, h⟩ := h)
theorem ln15 {K : PySem.W.Frag} : ∀ vs H Q E, Γ K 15 vs H Q E → vs.length = (["_law_script"] : List Str).length := by intro vs H Q E h; repeat (first | exact h.elim | (obtain ⟨rfl, _⟩ := h; rfl; done) | obtain ⟨_, h⟩ := h)
theorem fnil {α : Type} {P : α → Prop} : ∀ t ∈ ([] : List α), P t := fun t h => nomatch h
theorem fcons {α : Type} {P : α → Prop} {a : α} {l : List α} (h : P a) (r : ∀ t ∈ l, P t) : ∀ t ∈ a :: l, P t := fun t m => by rcases List.mem_cons.mp m with rfl | m; exact h; exact r t m
theorem all_mk {l : PySem.W.OpenLaw} {w : World} {K : PySem.W.Frag} {h : Heap} {mg : Str → Option Value} {fa : Addr} (X : K.In h) (Gl : h.Ns mainGlobals mg) (hfa : mg "law" = some (.ref fa))
    {f0 : Addr} {od0 an0 : Option Addr} {sl0 : Array (Option Value)} {oc0 kV0 dc0 pm0 cd0 ct0 : Value}
    {f1 : Addr} {od1 an1 : Option Addr} {sl1 : Array (Option Value)} {oc1 kV1 dc1 pm1 cd1 ct1 : Value}
    {f2 : Addr} {od2 an2 : Option Addr} {sl2 : Array (Option Value)} {oc2 kV2 dc2 pm2 cd2 ct2 : Value}
    {f3 : Addr} {od3 an3 : Option Addr} {sl3 : Array (Option Value)} {oc3 kV3 dc3 pm3 cd3 ct3 : Value}
    {f4 : Addr} {od4 an4 : Option Addr} {sl4 : Array (Option Value)} {oc4 kV4 dc4 pm4 cd4 ct4 : Value}
    {f5 : Addr} {od5 an5 : Option Addr} {sl5 : Array (Option Value)} {oc5 kV5 dc5 pm5 cd5 ct5 : Value}
    {f6 : Addr} {od6 an6 : Option Addr} {sl6 : Array (Option Value)} {oc6 kV6 dc6 pm6 cd6 ct6 : Value}
    {f7 : Addr} {od7 an7 : Option Addr} {sl7 : Array (Option Value)} {oc7 kV7 dc7 pm7 cd7 ct7 : Value}
    {f8 : Addr} {od8 an8 : Option Addr} {sl8 : Array (Option Value)} {oc8 kV8 dc8 pm8 cd8 ct8 : Value}
    {f9 : Addr} {od9 an9 : Option Addr} {sl9 : Array (Option Value)} {oc9 kV9 dc9 pm9 cd9 ct9 : Value}
    {f10 : Addr} {od10 an10 : Option Addr} {sl10 : Array (Option Value)} {oc10 kV10 dc10 pm10 cd10 ct10 : Value}
    {f11 : Addr} {od11 an11 : Option Addr} {sl11 : Array (Option Value)} {oc11 kV11 dc11 pm11 cd11 ct11 : Value}
    {f12 : Addr} {od12 an12 : Option Addr} {sl12 : Array (Option Value)} {oc12 kV12 dc12 pm12 cd12 ct12 : Value}
    {f13 : Addr} {od13 an13 : Option Addr} {sl13 : Array (Option Value)} {oc13 kV13 dc13 pm13 cd13 ct13 : Value}
    {f14 : Addr} {od14 an14 : Option Addr} {sl14 : Array (Option Value)} {oc14 kV14 dc14 pm14 cd14 ct14 : Value}
    {f15 : Addr} {od15 an15 : Option Addr} {sl15 : Array (Option Value)} {oc15 kV15 dc15 pm15 cd15 ct15 : Value}
    {t0 : Tok}
    {t1 : Tok}
    (a0 : PySem.W.nsIn K mainGlobals "is_number" = some (some (.ref f0)))
    (l0 : K.lookup f0 = some ⟨oc0, od0, .func (PySem.W.fnOf "is_number" "is_number" (defArgs s_is_number) (defBody s_is_number) (defScope s_is_number) .none kV0 dc0 pm0 an0 cd0 ct0), sl0⟩)
    (c0 : PySem.W.codeIn K cd0 "is_number" = true)
    (k0 : PySem.W.keepIn K (.ref f0) = true)
    (a1 : PySem.W.nsIn K mainGlobals "is_length" = some (some (.ref f1)))
    (l1 : K.lookup f1 = some ⟨oc1, od1, .func (PySem.W.fnOf "is_length" "is_length" (defArgs s_is_length) (defBody s_is_length) (defScope s_is_length) .none kV1 dc1 pm1 an1 cd1 ct1), sl1⟩)
    (c1 : PySem.W.codeIn K cd1 "is_length" = true)
    (k1 : PySem.W.keepIn K (.ref f1) = true)
    (a2 : PySem.W.nsIn K mainGlobals "is_grid" = some (some (.ref f2)))
    (l2 : K.lookup f2 = some ⟨oc2, od2, .func (PySem.W.fnOf "is_grid" "is_grid" (defArgs s_is_grid) (defBody s_is_grid) (defScope s_is_grid) .none kV2 dc2 pm2 an2 cd2 ct2), sl2⟩)
    (c2 : PySem.W.codeIn K cd2 "is_grid" = true)
    (k2 : PySem.W.keepIn K (.ref f2) = true)
    (a3 : PySem.W.nsIn K mainGlobals "check_grid" = some (some (.ref f3)))
    (l3 : K.lookup f3 = some ⟨oc3, od3, .func (PySem.W.fnOf "check_grid" "check_grid" (defArgs s_check_grid) (defBody s_check_grid) (defScope s_check_grid) .none kV3 dc3 pm3 an3 cd3 ct3), sl3⟩)
    (c3 : PySem.W.codeIn K cd3 "check_grid" = true)
    (k3 : PySem.W.keepIn K (.ref f3) = true)
    (a4 : PySem.W.nsIn K mainGlobals "sides_round" = some (some (.ref f4)))
    (l4 : K.lookup f4 = some ⟨oc4, od4, .func (PySem.W.fnOf "sides_round" "sides_round" (defArgs s_sides_round) (defBody s_sides_round) (defScope s_sides_round) .none kV4 dc4 pm4 an4 cd4 ct4), sl4⟩)
    (c4 : PySem.W.codeIn K cd4 "sides_round" = true)
    (k4 : PySem.W.keepIn K (.ref f4) = true)
    (a5 : PySem.W.nsIn K mainGlobals "rim_sides" = some (some (.ref f5)))
    (l5 : K.lookup f5 = some ⟨oc5, od5, .func (PySem.W.fnOf "rim_sides" "rim_sides" (defArgs s_rim_sides) (defBody s_rim_sides) (defScope s_rim_sides) .none kV5 dc5 pm5 an5 cd5 ct5), sl5⟩)
    (c5 : PySem.W.codeIn K cd5 "rim_sides" = true)
    (k5 : PySem.W.keepIn K (.ref f5) = true)
    (a6 : PySem.W.nsIn K mainGlobals "ring_points" = some (some (.ref f6)))
    (l6 : K.lookup f6 = some ⟨oc6, od6, .func (PySem.W.fnOf "ring_points" "ring_points" (defArgs s_ring_points) (defBody s_ring_points) (defScope s_ring_points) .none kV6 dc6 pm6 an6 cd6 ct6), sl6⟩)
    (c6 : PySem.W.codeIn K cd6 "ring_points" = true)
    (k6 : PySem.W.keepIn K (.ref f6) = true)
    (a7 : PySem.W.nsIn K mainGlobals "is_one_ring" = some (some (.ref f7)))
    (l7 : K.lookup f7 = some ⟨oc7, od7, .func (PySem.W.fnOf "is_one_ring" "is_one_ring" (defArgs s_is_one_ring) (defBody s_is_one_ring) (defScope s_is_one_ring) .none kV7 dc7 pm7 an7 cd7 ct7), sl7⟩)
    (c7 : PySem.W.codeIn K cd7 "is_one_ring" = true)
    (k7 : PySem.W.keepIn K (.ref f7) = true)
    (a8 : PySem.W.nsIn K mainGlobals "all_cells" = some (some (.ref f8)))
    (l8 : K.lookup f8 = some ⟨oc8, od8, .func (PySem.W.fnOf "all_cells" "all_cells" (defArgs s_all_cells) (defBody s_all_cells) (defScope s_all_cells) .none kV8 dc8 pm8 an8 cd8 ct8), sl8⟩)
    (c8 : PySem.W.codeIn K cd8 "all_cells" = true)
    (k8 : PySem.W.keepIn K (.ref f8) = true)
    (a9 : PySem.W.nsIn K mainGlobals "all_rings" = some (some (.ref f9)))
    (l9 : K.lookup f9 = some ⟨oc9, od9, .func (PySem.W.fnOf "all_rings" "all_rings" (defArgs s_all_rings) (defBody s_all_rings) (defScope s_all_rings) .none kV9 dc9 pm9 an9 cd9 ct9), sl9⟩)
    (c9 : PySem.W.codeIn K cd9 "all_rings" = true)
    (k9 : PySem.W.keepIn K (.ref f9) = true)
    (a10 : PySem.W.nsIn K mainGlobals "rings" = some (some (.ref f10)))
    (l10 : K.lookup f10 = some ⟨oc10, od10, .func (PySem.W.fnOf "rings" "rings" (defArgs s_rings) (defBody s_rings) (defScope s_rings) .none kV10 dc10 pm10 an10 cd10 ct10), sl10⟩)
    (c10 : PySem.W.codeIn K cd10 "rings" = true)
    (k10 : PySem.W.keepIn K (.ref f10) = true)
    (a11 : PySem.W.nsIn K mainGlobals "_law_grid" = some (some (.ref f11)))
    (l11 : K.lookup f11 = some ⟨oc11, od11, .func (PySem.W.fnOf "_law_grid" "_law_grid" (defArgs s_law_grid) (defBody s_law_grid) (defScope s_law_grid) .none kV11 dc11 pm11 an11 cd11 ct11), sl11⟩)
    (c11 : PySem.W.codeIn K cd11 "_law_grid" = true)
    (k11 : PySem.W.keepIn K (.ref f11) = true)
    (a12 : PySem.W.nsIn K mainGlobals "_law_sides" = some (some (.ref f12)))
    (l12 : K.lookup f12 = some ⟨oc12, od12, .func (PySem.W.fnOf "_law_sides" "_law_sides" (defArgs s_law_sides) (defBody s_law_sides) (defScope s_law_sides) .none kV12 dc12 pm12 an12 cd12 ct12), sl12⟩)
    (c12 : PySem.W.codeIn K cd12 "_law_sides" = true)
    (k12 : PySem.W.keepIn K (.ref f12) = true)
    (a13 : PySem.W.nsIn K mainGlobals "_law_points" = some (some (.ref f13)))
    (l13 : K.lookup f13 = some ⟨oc13, od13, .func (PySem.W.fnOf "_law_points" "_law_points" (defArgs s_law_points) (defBody s_law_points) (defScope s_law_points) .none kV13 dc13 pm13 an13 cd13 ct13), sl13⟩)
    (c13 : PySem.W.codeIn K cd13 "_law_points" = true)
    (k13 : PySem.W.keepIn K (.ref f13) = true)
    (a14 : PySem.W.nsIn K mainGlobals "_law_is_ring" = some (some (.ref f14)))
    (l14 : K.lookup f14 = some ⟨oc14, od14, .func (PySem.W.fnOf "_law_is_ring" "_law_is_ring" (defArgs s_law_is_ring) (defBody s_law_is_ring) (defScope s_law_is_ring) .none kV14 dc14 pm14 an14 cd14 ct14), sl14⟩)
    (c14 : PySem.W.codeIn K cd14 "_law_is_ring" = true)
    (k14 : PySem.W.keepIn K (.ref f14) = true)
    (a15 : PySem.W.nsIn K mainGlobals "law" = some (some (.ref f15)))
    (l15 : K.lookup f15 = some ⟨oc15, od15, .func (PySem.W.fnOf "law" "law" (defArgs s_law) (defBody s_law) (defScope s_law) .none kV15 dc15 pm15 an15 cd15 ct15), sl15⟩)
    (c15 : PySem.W.codeIn K cd15 "law" = true)
    (k15 : PySem.W.keepIn K (.ref f15) = true)
    (v0 : PySem.W.nsIn K mainGlobals "MOST_LINES" = some (some (.int (6) t0)))
    (v1 : PySem.W.nsIn K mainGlobals "MOST_CELLS" = some (some (.int (9) t1)))
    (z0 : PySem.W.nsIn K mainGlobals "len" = some none)
    (z1 : PySem.W.nsIn K mainGlobals "sum" = some none)
    (z2 : PySem.W.nsIn K mainGlobals "all" = some none)
    (z3 : PySem.W.nsIn K mainGlobals "any" = some none)
    (z4 : PySem.W.nsIn K mainGlobals "list" = some none)
    (z5 : PySem.W.nsIn K mainGlobals "divmod" = some none)
    (z6 : PySem.W.nsIn K mainGlobals "abs" = some none)
    (z7 : PySem.W.nsIn K mainGlobals "max" = some none)
    (z8 : PySem.W.nsIn K mainGlobals "min" = some none)
    (z9 : PySem.W.nsIn K mainGlobals "sorted" = some none)
    (z10 : PySem.W.nsIn K mainGlobals "tuple" = some none)
    (z11 : PySem.W.nsIn K mainGlobals "isinstance" = some none)
    (z12 : PySem.W.nsIn K mainGlobals "range" = some none)
    (z13 : PySem.W.nsIn K mainGlobals "int" = some none)
    (z14 : PySem.W.nsIn K mainGlobals "bool" = some none)
    (z15 : PySem.W.nsIn K mainGlobals "str" = some none)
    (z16 : PySem.W.nsIn K mainGlobals "dict" = some none)
    (z17 : PySem.W.nsIn K mainGlobals "enumerate" = some none)
    (z18 : PySem.W.nsIn K mainGlobals "zip" = some none)
    (z19 : PySem.W.nsIn K mainGlobals "reversed" = some none)
    : ∃ fd : FuncData, (∀ (s : Shared) (v : Value), BindsTo s fd ⟨[v], []⟩ [("_law_script", v)]) ∧ ∀ base : Heap, K.In base → base.Ns mainGlobals mg → FnOk l.prog w K mg base CX0 16 fa fd ["_law_script"] (Γ K 15) := by
  have e := hfa.symm.trans (PySem.W.mg_of X Gl a15)
  cases e
  have mgB : ∀ x ∈ biNames, mg x = none := fcons (PySem.W.mg_none_of X Gl z0) <| fcons (PySem.W.mg_none_of X Gl z1) <| fcons (PySem.W.mg_none_of X Gl z2) <| fcons (PySem.W.mg_none_of X Gl z3) <| fcons (PySem.W.mg_none_of X Gl z4) <| fcons (PySem.W.mg_none_of X Gl z5) <| fcons (PySem.W.mg_none_of X Gl z6) <| fcons (PySem.W.mg_none_of X Gl z7) <| fcons (PySem.W.mg_none_of X Gl z8) <| fcons (PySem.W.mg_none_of X Gl z9) <| fcons (PySem.W.mg_none_of X Gl z10) <| fcons (PySem.W.mg_none_of X Gl z11) <| fcons (PySem.W.mg_none_of X Gl z12) <| fcons (PySem.W.mg_none_of X Gl z13) <| fcons (PySem.W.mg_none_of X Gl z14) <| fcons (PySem.W.mg_none_of X Gl z15) <| fcons (PySem.W.mg_none_of X Gl z16) <| fcons (PySem.W.mg_none_of X Gl z17) <| fcons (PySem.W.mg_none_of X Gl z18) <| fcons (PySem.W.mg_none_of X Gl z19) <| fnil
  have gvs : ∀ k x, gt[k]? = some x → ∃ u, mg x = some u ∧ RelV (gv k) u := by
    intro k x hx
    match k, hx with
    | 0, hx => cases hx; exact ⟨_, PySem.W.mg_of X Gl v0, t0, rfl⟩
    | 1, hx => cases hx; exact ⟨_, PySem.W.mg_of X Gl v1, t1, rfl⟩
    | k + 2, hx => simp [gt] at hx
  have clA : ∀ x ∈ sg.cl, ClF K mg x := fnil
  have csA : ∀ t ∈ sg.cs, t.1 ∈ sg.cl ∧ PySem.W.kitOne K (.ref (clsA K t.1)) (.ref (clsA K t.2.1)) = some t.2.2 := fnil
  have inA : ∀ x ∈ sg.in0, x ∈ sg.cl ∧ PySem.W.findIn K (.ref (clsA K x)) "__init__" = some (some (.builtin "object.__init__")) := fnil
  have flA : ∀ t ∈ sg.fl, t.1 ∈ sg.cl ∧ NoAttr K (clsA K t.1) t.2 := fnil
  have sgo : SgOk K mg sg := ⟨clA, fun y x b h => csA _ h, inA, fun x f h => flA _ h⟩
  have F0 := fun_mk (st := s_is_number) l0 c0 k0
  have B0 := F0.binds (ps := ["value"]) fun _ _ _ _ _ _ us hl => match us, hl with | [_], _ => rfl
  have F1 := fun_mk (st := s_is_length) l1 c1 k1
  have B1 := F1.binds (ps := ["value"]) fun _ _ _ _ _ _ us hl => match us, hl with | [_], _ => rfl
  have F2 := fun_mk (st := s_is_grid) l2 c2 k2
  have B2 := F2.binds (ps := ["value"]) fun _ _ _ _ _ _ us hl => match us, hl with | [_], _ => rfl
  have F3 := fun_mk (st := s_check_grid) l3 c3 k3
  have B3 := F3.binds (ps := ["grid"]) fun _ _ _ _ _ _ us hl => match us, hl with | [_], _ => rfl
  have F4 := fun_mk (st := s_sides_round) l4 c4 k4
  have B4 := F4.binds (ps := ["columns", "cell"]) fun _ _ _ _ _ _ us hl => match us, hl with | [_, _], _ => rfl
  have F5 := fun_mk (st := s_rim_sides) l5 c5 k5
  have B5 := F5.binds (ps := ["columns", "cells"]) fun _ _ _ _ _ _ us hl => match us, hl with | [_, _], _ => rfl
  have F6 := fun_mk (st := s_ring_points) l6 c6 k6
  have B6 := F6.binds (ps := ["grid", "cells"]) fun _ _ _ _ _ _ us hl => match us, hl with | [_, _], _ => rfl
  have F7 := fun_mk (st := s_is_one_ring) l7 c7 k7
  have B7 := F7.binds (ps := ["grid", "cells"]) fun _ _ _ _ _ _ us hl => match us, hl with | [_, _], _ => rfl
  have F8 := fun_mk (st := s_all_cells) l8 c8 k8
  have B8 := F8.binds (ps := ["grid"]) fun _ _ _ _ _ _ us hl => match us, hl with | [_], _ => rfl
  have F9 := fun_mk (st := s_all_rings) l9 c9 k9
  have B9 := F9.binds (ps := ["grid"]) fun _ _ _ _ _ _ us hl => match us, hl with | [_], _ => rfl
  have F10 := fun_mk (st := s_rings) l10 c10 k10
  have B10 := F10.binds (ps := ["grid"]) fun _ _ _ _ _ _ us hl => match us, hl with | [_], _ => rfl
  have F11 := fun_mk (st := s_law_grid) l11 c11 k11
  have B11 := F11.binds (ps := ["_law_number", "_law_most"]) fun _ _ _ _ _ _ us hl => match us, hl with | [_, _], _ => rfl
  have F12 := fun_mk (st := s_law_sides) l12 c12 k12
  have B12 := F12.binds (ps := ["_law_grid_here", "_law_cells"]) fun _ _ _ _ _ _ us hl => match us, hl with | [_, _], _ => rfl
  have F13 := fun_mk (st := s_law_points) l13 c13 k13
  have B13 := F13.binds (ps := ["_law_sides_here"]) fun _ _ _ _ _ _ us hl => match us, hl with | [_], _ => rfl
  have F14 := fun_mk (st := s_law_is_ring) l14 c14 k14
  have B14 := F14.binds (ps := ["_law_grid_here", "_law_cells"]) fun _ _ _ _ _ _ us hl => match us, hl with | [_, _], _ => rfl
  have F15 := fun_mk (st := s_law) l15 c15 k15
  have B15 := F15.binds (ps := ["_law_script"]) fun _ _ _ _ _ _ us hl => match us, hl with | [_], _ => rfl
  refine ⟨PySem.W.fnOf "law" "law" (defArgs s_law) (defBody s_law) (defScope s_law) .none kV15 dc15 pm15 an15 cd15 ct15, fun s v => .of_eq rfl, fun base _ _ => ?_⟩
  have M0 : Md l.prog w K mg base (Γ K) gv ft gt sg 0 := ⟨mgB, gvs, fun k f hk => absurd hk (by omega), sgo, fun k x m hk => absurd hk (by omega), fun k x hk => absurd hk (by omega)⟩
  have O0 := fn_ok M0 F0 sc_is_number m_is_number ln0 b_is_number
  have M1 := M0.step (fun f h _ => by cases h; exact ⟨f0, _, _, O0, PySem.W.mg_of X Gl a0, k0, B0⟩) (fun x m h hc => by cases h; exact absurd hc (by decide)) (fun x h => by simp [sg] at h)
  have O1 := fn_ok M1 F1 sc_is_length m_is_length ln1 b_is_length
  have M2 := M1.step (fun f h _ => by cases h; exact ⟨f1, _, _, O1, PySem.W.mg_of X Gl a1, k1, B1⟩) (fun x m h hc => by cases h; exact absurd hc (by decide)) (fun x h => by simp [sg] at h)
  have O2 := fn_ok M2 F2 sc_is_grid m_is_grid ln2 b_is_grid
  have M3 := M2.step (fun f h _ => by cases h; exact ⟨f2, _, _, O2, PySem.W.mg_of X Gl a2, k2, B2⟩) (fun x m h hc => by cases h; exact absurd hc (by decide)) (fun x h => by simp [sg] at h)
  have O3 := fn_ok M3 F3 sc_check_grid m_check_grid ln3 b_check_grid
  have M4 := M3.step (fun f h _ => by cases h; exact ⟨f3, _, _, O3, PySem.W.mg_of X Gl a3, k3, B3⟩) (fun x m h hc => by cases h; exact absurd hc (by decide)) (fun x h => by simp [sg] at h)
  have O4 := fn_ok M4 F4 sc_sides_round m_sides_round ln4 b_sides_round
  have M5 := M4.step (fun f h _ => by cases h; exact ⟨f4, _, _, O4, PySem.W.mg_of X Gl a4, k4, B4⟩) (fun x m h hc => by cases h; exact absurd hc (by decide)) (fun x h => by simp [sg] at h)
  have O5 := fn_ok M5 F5 sc_rim_sides m_rim_sides ln5 b_rim_sides
  have M6 := M5.step (fun f h _ => by cases h; exact ⟨f5, _, _, O5, PySem.W.mg_of X Gl a5, k5, B5⟩) (fun x m h hc => by cases h; exact absurd hc (by decide)) (fun x h => by simp [sg] at h)
  have O6 := fn_ok M6 F6 sc_ring_points m_ring_points ln6 b_ring_points
  have M7 := M6.step (fun f h _ => by cases h; exact ⟨f6, _, _, O6, PySem.W.mg_of X Gl a6, k6, B6⟩) (fun x m h hc => by cases h; exact absurd hc (by decide)) (fun x h => by simp [sg] at h)
  have O7 := fn_ok M7 F7 sc_is_one_ring m_is_one_ring ln7 b_is_one_ring
  have M8 := M7.step (fun f h _ => by cases h; exact ⟨f7, _, _, O7, PySem.W.mg_of X Gl a7, k7, B7⟩) (fun x m h hc => by cases h; exact absurd hc (by decide)) (fun x h => by simp [sg] at h)
  have O8 := fn_ok M8 F8 sc_all_cells m_all_cells ln8 b_all_cells
  have M9 := M8.step (fun f h _ => by cases h; exact ⟨f8, _, _, O8, PySem.W.mg_of X Gl a8, k8, B8⟩) (fun x m h hc => by cases h; exact absurd hc (by decide)) (fun x h => by simp [sg] at h)
  have O9 := fn_ok M9 F9 sc_all_rings m_all_rings ln9 b_all_rings
  have M10 := M9.step (fun f h _ => by cases h; exact ⟨f9, _, _, O9, PySem.W.mg_of X Gl a9, k9, B9⟩) (fun x m h hc => by cases h; exact absurd hc (by decide)) (fun x h => by simp [sg] at h)
  have O10 := fn_ok M10 F10 sc_rings m_rings ln10 b_rings
  have M11 := M10.step (fun f h _ => by cases h; exact ⟨f10, _, _, O10, PySem.W.mg_of X Gl a10, k10, B10⟩) (fun x m h hc => by cases h; exact absurd hc (by decide)) (fun x h => by simp [sg] at h)
  have O11 := fn_ok M11 F11 sc_law_grid m_law_grid ln11 b_law_grid
  have M12 := M11.step (fun f h _ => by cases h; exact ⟨f11, _, _, O11, PySem.W.mg_of X Gl a11, k11, B11⟩) (fun x m h hc => by cases h; exact absurd hc (by decide)) (fun x h => by simp [sg] at h)
  have O12 := fn_ok M12 F12 sc_law_sides m_law_sides ln12 b_law_sides
  have M13 := M12.step (fun f h _ => by cases h; exact ⟨f12, _, _, O12, PySem.W.mg_of X Gl a12, k12, B12⟩) (fun x m h hc => by cases h; exact absurd hc (by decide)) (fun x h => by simp [sg] at h)
  have O13 := fn_ok M13 F13 sc_law_points m_law_points ln13 b_law_points
  have M14 := M13.step (fun f h _ => by cases h; exact ⟨f13, _, _, O13, PySem.W.mg_of X Gl a13, k13, B13⟩) (fun x m h hc => by cases h; exact absurd hc (by decide)) (fun x h => by simp [sg] at h)
  have O14 := fn_ok M14 F14 sc_law_is_ring m_law_is_ring ln14 b_law_is_ring
  have M15 := M14.step (fun f h _ => by cases h; exact ⟨f14, _, _, O14, PySem.W.mg_of X Gl a14, k14, B14⟩) (fun x m h hc => by cases h; exact absurd hc (by decide)) (fun x h => by simp [sg] at h)
  exact fn_ok M15 F15 sc_law m_law ln15 b_law
end Sx
set_option Elab.async false
set_option linter.all false
open PySem PySem.W PyProof.Rows
set_option maxRecDepth 100000 in
set_option maxHeartbeats 0 in
theorem PySem.Challenge.cw_sidering_k04_whole_rings_holds : PySem.Challenge.rw_sidering_k04_whole_rings.Holds := by
  w_on; o_law; k_head; (case hw => w_witness2)
  k_fill
  refine L2.IR.walkB (l := PySem.Challenge.rw_sidering_k04_whole_rings) (n := 63) (k := 16) (x := "_law_script") (sp := Sx.spL) rfl (by decide) rfl ⟨rfl, by decide, by decide⟩ (fun w h Y => PySem.W.kIn_of Y) ?F Sx.lawS
  case F =>
    intro w mg fa h KX Gl hmg
    refine' Sx.all_mk KX Gl hmg ?zq_a0 ?zq_l0 ?zq_c0 ?zq_k0 ?zq_a1 ?zq_l1 ?zq_c1 ?zq_k1 ?zq_a2 ?zq_l2 ?zq_c2 ?zq_k2 ?zq_a3 ?zq_l3 ?zq_c3 ?zq_k3 ?zq_a4 ?zq_l4 ?zq_c4 ?zq_k4 ?zq_a5 ?zq_l5 ?zq_c5 ?zq_k5 ?zq_a6 ?zq_l6 ?zq_c6 ?zq_k6 ?zq_a7 ?zq_l7 ?zq_c7 ?zq_k7 ?zq_a8 ?zq_l8 ?zq_c8 ?zq_k8 ?zq_a9 ?zq_l9 ?zq_c9 ?zq_k9 ?zq_a10 ?zq_l10 ?zq_c10 ?zq_k10 ?zq_a11 ?zq_l11 ?zq_c11 ?zq_k11 ?zq_a12 ?zq_l12 ?zq_c12 ?zq_k12 ?zq_a13 ?zq_l13 ?zq_c13 ?zq_k13 ?zq_a14 ?zq_l14 ?zq_c14 ?zq_k14 ?zq_a15 ?zq_l15 ?zq_c15 ?zq_k15 ?zq_v0 ?zq_v1 ?zq_z0 ?zq_z1 ?zq_z2 ?zq_z3 ?zq_z4 ?zq_z5 ?zq_z6 ?zq_z7 ?zq_z8 ?zq_z9 ?zq_z10 ?zq_z11 ?zq_z12 ?zq_z13 ?zq_z14 ?zq_z15 ?zq_z16 ?zq_z17 ?zq_z18 ?zq_z19
    (case zq_a0 => k_is)
    (case zq_l0 => k_is)
    (case zq_c0 => k_is)
    (case zq_k0 => k_is)
    (case zq_a1 => k_is)
    (case zq_l1 => k_is)
    (case zq_c1 => k_is)
    (case zq_k1 => k_is)
    (case zq_a2 => k_is)
    (case zq_l2 => k_is)
    (case zq_c2 => k_is)
    (case zq_k2 => k_is)
    (case zq_a3 => k_is)
    (case zq_l3 => k_is)
    (case zq_c3 => k_is)
    (case zq_k3 => k_is)
    (case zq_a4 => k_is)
    (case zq_l4 => k_is)
    (case zq_c4 => k_is)
    (case zq_k4 => k_is)
    (case zq_a5 => k_is)
    (case zq_l5 => k_is)
    (case zq_c5 => k_is)
    (case zq_k5 => k_is)
    (case zq_a6 => k_is)
    (case zq_l6 => k_is)
    (case zq_c6 => k_is)
    (case zq_k6 => k_is)
    (case zq_a7 => k_is)
    (case zq_l7 => k_is)
    (case zq_c7 => k_is)
    (case zq_k7 => k_is)
    (case zq_a8 => k_is)
    (case zq_l8 => k_is)
    (case zq_c8 => k_is)
    (case zq_k8 => k_is)
    (case zq_a9 => k_is)
    (case zq_l9 => k_is)
    (case zq_c9 => k_is)
    (case zq_k9 => k_is)
    (case zq_a10 => k_is)
    (case zq_l10 => k_is)
    (case zq_c10 => k_is)
    (case zq_k10 => k_is)
    (case zq_a11 => k_is)
    (case zq_l11 => k_is)
    (case zq_c11 => k_is)
    (case zq_k11 => k_is)
    (case zq_a12 => k_is)
    (case zq_l12 => k_is)
    (case zq_c12 => k_is)
    (case zq_k12 => k_is)
    (case zq_a13 => k_is)
    (case zq_l13 => k_is)
    (case zq_c13 => k_is)
    (case zq_k13 => k_is)
    (case zq_a14 => k_is)
    (case zq_l14 => k_is)
    (case zq_c14 => k_is)
    (case zq_k14 => k_is)
    (case zq_a15 => k_is)
    (case zq_l15 => k_is)
    (case zq_c15 => k_is)
    (case zq_k15 => k_is)
    (case zq_v0 => k_is)
    (case zq_v1 => k_is)
    (case zq_z0 => k_is)
    (case zq_z1 => k_is)
    (case zq_z2 => k_is)
    (case zq_z3 => k_is)
    (case zq_z4 => k_is)
    (case zq_z5 => k_is)
    (case zq_z6 => k_is)
    (case zq_z7 => k_is)
    (case zq_z8 => k_is)
    (case zq_z9 => k_is)
    (case zq_z10 => k_is)
    (case zq_z11 => k_is)
    (case zq_z12 => k_is)
    (case zq_z13 => k_is)
    (case zq_z14 => k_is)
    (case zq_z15 => k_is)
    (case zq_z16 => k_is)
    (case zq_z17 => k_is)
    (case zq_z18 => k_is)
    (case zq_z19 => k_is)
