import PyProof.Rows.All
import Wide.All
import OpenK.AllK
import Wide.FinOn
import PyProof.EqAt
import PyProof.EqKinds
import PyProof.TupleCall
import PyProof.TupleKey
import PyProof.P3Eq
import PyProof.P3Statements
import KE.KSortTup
import Lean
import PySem.Challenge.RW_kindturn_k07_whole_one_to_one
set_option Elab.async false
set_option linter.all false
set_option maxRecDepth 100000
/-! keys of a dict that are tuples within tuples -/
namespace KN
open PySem
mutual
def kD : PyData → Bool
  | .int _ => true
  | .str s => PyData.strOk s
  | .tuple ds => kDs ds
  | _ => false
def kDs : List PyData → Bool
  | [] => true
  | d :: ds => kD d && kDs ds
end
mutual
def NH (h : Heap) : PyData → Value → Prop
  | .int i, v => ∃ t, v = .int i t
  | .str x, v => ∃ t, v = .str x t
  | .tuple ds, v => ∃ (a : Addr) (o : Obj) (its : Array Value) (n : Nat), v = .ref a ∧ h.get? a = some o ∧ o.cls = .type "tuple" ∧ o.data = .seq its n ∧ NHs h ds its.toList
  | _, _ => False
def NHs (h : Heap) : List PyData → List Value → Prop
  | [], vs => vs = []
  | d :: ds, vs => ∃ v r, vs = v :: r ∧ NH h d v ∧ NHs h ds r
end
mutual
def hashD (w : World) : PyData → Int
  | .int i => hashInt i
  | .str s => hashStr w s
  | .tuple ds => reduceHash (Builtin.Tuple.tupleHashOf (hashDs w ds))
  | _ => 0
def hashDs (w : World) : List PyData → List Int
  | [] => []
  | d :: ds => hashD w d :: hashDs w ds
end
mutual
def drawsD : PyData → Nat
  | .int _ => 1
  | .str _ => 1
  | .tuple ds => drawsDs ds + 1
  | _ => 0
def drawsDs : List PyData → Nat
  | [] => 0
  | d :: ds => drawsD d + drawsDs ds
end
mutual
theorem NH.inj {h : Heap} : ∀ (x y : PyData) (v : Value), NH h x v → NH h y v → x = y
  | .int i, .int j, v, ⟨t, e⟩, ⟨u, e'⟩ => by subst e; injection e' with e1 _; rw [e1]
  | .int i, .str _, v, ⟨t, e⟩, ⟨u, e'⟩ => by subst e; cases e'
  | .int i, .tuple _, v, ⟨t, e⟩, ⟨_, _, _, _, e', _⟩ => by subst e; cases e'
  | .str i, .int j, v, ⟨t, e⟩, ⟨u, e'⟩ => by subst e; cases e'
  | .str i, .str _, v, ⟨t, e⟩, ⟨u, e'⟩ => by subst e; injection e' with e1 _; rw [e1]
  | .str i, .tuple _, v, ⟨t, e⟩, ⟨_, _, _, _, e', _⟩ => by subst e; cases e'
  | .tuple _, .int j, v, ⟨_, _, _, _, e, _⟩, ⟨u, e'⟩ => by subst e; cases e'
  | .tuple _, .str _, v, ⟨_, _, _, _, e, _⟩, ⟨u, e'⟩ => by subst e; cases e'
  | .tuple xs, .tuple ys, v, ⟨a, o, its, n, e, ho, _, hd, r⟩, ⟨a', o', its', n', e', ho', _, hd', r'⟩ => by
    subst e
    injection e' with e1
    subst e1
    rw [ho] at ho'
    cases ho'
    rw [hd] at hd'
    injection hd' with e2 _
    subst e2
    rw [NHs.inj xs ys _ r r']
  | .none, _, _, h, _ => h.elim
  | .bool _, _, _, h, _ => h.elim
  | .list _, _, _, h, _ => h.elim
  | .dict _, _, _, h, _ => h.elim
  | .int _, .none, _, _, h => h.elim
  | .int _, .bool _, _, _, h => h.elim
  | .int _, .list _, _, _, h => h.elim
  | .int _, .dict _, _, _, h => h.elim
  | .str _, .none, _, _, h => h.elim
  | .str _, .bool _, _, _, h => h.elim
  | .str _, .list _, _, _, h => h.elim
  | .str _, .dict _, _, _, h => h.elim
  | .tuple _, .none, _, _, h => h.elim
  | .tuple _, .bool _, _, _, h => h.elim
  | .tuple _, .list _, _, _, h => h.elim
  | .tuple _, .dict _, _, _, h => h.elim
theorem NHs.inj {h : Heap} : ∀ (x y : List PyData) (v : List Value), NHs h x v → NHs h y v → x = y
  | [], [], _, _, _ => rfl
  | [], _ :: _, v, e, ⟨_, _, e', _⟩ => by cases (show v = [] from e); cases e'
  | _ :: _, [], v, ⟨_, _, e', _⟩, e => by cases (show v = [] from e); cases e'
  | x :: xs, y :: ys, v, ⟨u, r, e, h1, h2⟩, ⟨u', r', e', h1', h2'⟩ => by
    subst e
    injection e' with e1 e2
    subst e1 e2
    rw [NH.inj x y u h1 h1', NHs.inj xs ys r h2 h2']
end
mutual
theorem NH.keeps {h h' : Heap} (k : ∀ a o its n, h.get? a = some o → o.data = .seq its n → h'.get? a = some o) : ∀ (d : PyData) (v : Value), NH h d v → NH h' d v
  | .int _, _, x => x
  | .str _, _, x => x
  | .tuple ds, _, ⟨a, o, its, n, e, ho, hc, hd, r⟩ => ⟨a, o, its, n, e, k a o its n ho hd, hc, hd, NHs.keeps k ds _ r⟩
  | .none, _, x => x.elim
  | .bool _, _, x => x.elim
  | .list _, _, x => x.elim
  | .dict _, _, x => x.elim
theorem NHs.keeps {h h' : Heap} (k : ∀ a o its n, h.get? a = some o → o.data = .seq its n → h'.get? a = some o) : ∀ (d : List PyData) (v : List Value), NHs h d v → NHs h' d v
  | [], _, x => x
  | d :: ds, _, ⟨u, r, e, h1, h2⟩ => ⟨u, r, e, NH.keeps k d u h1, NHs.keeps k ds r h2⟩
end
mutual
theorem NH.reads {h : Heap} : ∀ (d : PyData) (v : Value), NH h d v → ∃ as, Reads h v d as
  | .int i, _, ⟨t, e⟩ => by subst e; exact ⟨_, .int i t⟩
  | .str i, _, ⟨t, e⟩ => by subst e; exact ⟨_, .str i t⟩
  | .tuple ds, _, ⟨a, o, its, n, e, ho, hc, hd, r⟩ => by
    subst e
    obtain ⟨as, q⟩ := NHs.reads ds _ r
    exact ⟨_, .tuple ho hc hd q⟩
  | .none, _, x => x.elim
  | .bool _, _, x => x.elim
  | .list _, _, x => x.elim
  | .dict _, _, x => x.elim
theorem NHs.reads {h : Heap} : ∀ (d : List PyData) (v : List Value), NHs h d v → ∃ as, ReadsAll h v d as
  | [], v, e => by cases (show v = [] from e); exact ⟨_, .nil⟩
  | d :: ds, _, ⟨u, r, e, h1, h2⟩ => by
    subst e
    obtain ⟨as, q⟩ := NH.reads d u h1
    obtain ⟨bs, q'⟩ := NHs.reads ds r h2
    exact ⟨_, .cons q q'⟩
end
mutual
theorem kD_lay : ∀ d : PyData, kD d = true → d.canLay0 = true
  | .int _, _ => rfl
  | .str s, h => by simpa [PyData.canLay0, kD] using h
  | .tuple ds, h => by simpa [PyData.canLay0] using kDs_lay ds (by simpa [kD] using h)
  | .none, h => by simp [kD] at h
  | .bool _, h => by simp [kD] at h
  | .list _, h => by simp [kD] at h
  | .dict _, h => by simp [kD] at h
theorem kDs_lay : ∀ ds : List PyData, kDs ds = true → PyData.canLayAll0 ds = true
  | [], _ => rfl
  | d :: ds, h => by
    have h' : kD d = true ∧ kDs ds = true := by simpa [kDs] using h
    simp [PyData.canLayAll0, kD_lay d h'.1, kDs_lay ds h'.2]
end
mutual
theorem kD_eqv : ∀ x y : PyData, kD x = true → kD y = true → (PyData.eqv x y = true ↔ x = y)
  | .int i, .int j, _, _ => by simp [PyData.eqv]
  | .int i, .str j, _, _ => by simp [PyData.eqv]
  | .int i, .tuple j, _, _ => by simp [PyData.eqv]
  | .str i, .int j, _, _ => by simp [PyData.eqv]
  | .str i, .str j, _, _ => by simp [PyData.eqv]
  | .str i, .tuple j, _, _ => by simp [PyData.eqv]
  | .tuple i, .int j, _, _ => by simp [PyData.eqv]
  | .tuple i, .str j, _, _ => by simp [PyData.eqv]
  | .tuple i, .tuple j, h, h' => by
    have := kDs_eqv i j (by simpa [kD] using h) (by simpa [kD] using h')
    simp [PyData.eqv, this]
  | .none, _, h, _ => by simp [kD] at h
  | .bool _, _, h, _ => by simp [kD] at h
  | .list _, _, h, _ => by simp [kD] at h
  | .dict _, _, h, _ => by simp [kD] at h
  | .int _, .none, _, h => by simp [kD] at h
  | .int _, .bool _, _, h => by simp [kD] at h
  | .int _, .list _, _, h => by simp [kD] at h
  | .int _, .dict _, _, h => by simp [kD] at h
  | .str _, .none, _, h => by simp [kD] at h
  | .str _, .bool _, _, h => by simp [kD] at h
  | .str _, .list _, _, h => by simp [kD] at h
  | .str _, .dict _, _, h => by simp [kD] at h
  | .tuple _, .none, _, h => by simp [kD] at h
  | .tuple _, .bool _, _, h => by simp [kD] at h
  | .tuple _, .list _, _, h => by simp [kD] at h
  | .tuple _, .dict _, _, h => by simp [kD] at h
theorem kDs_eqv : ∀ x y : List PyData, kDs x = true → kDs y = true → (PyData.eqvAll x y = true ↔ x = y)
  | [], [], _, _ => by simp [PyData.eqvAll]
  | [], _ :: _, _, _ => by simp [PyData.eqvAll]
  | _ :: _, [], _, _ => by simp [PyData.eqvAll]
  | x :: xs, y :: ys, h, h' => by
    have a : kD x = true ∧ kDs xs = true := by simpa [kDs] using h
    have b : kD y = true ∧ kDs ys = true := by simpa [kDs] using h'
    simp [PyData.eqvAll, kD_eqv x y a.1 b.1, kDs_eqv xs ys a.2 b.2]
end
section
variable {prog : Program} {w : World} {E : Value → Shared → Prop}
mutual
theorem hash_ok : ∀ (d : PyData) (A : Around) (s : Shared) (v : Value) (Q : Int → Shared → Prop), A.units + d.depth < cLine → NH s.heap d v → Q (hashD w d) { s with toks := s.toks + drawsD d } → wpAny (model prog w) A (pyHash v) Q E s
  | .int i, A, s, v, Q, _, ⟨t, e⟩, h => by subst e; exact wpAny_pyHash_int h
  | .str i, A, s, v, Q, _, ⟨t, e⟩, h => by subst e; exact wpAny_pyHash_str h
  | .tuple ds, A, s, v, Q, hu, ⟨a, o, its, n, e, ho, hc, hd, r⟩, h => by
    subst e
    have hT : s.TypeIs (.ref a) "tuple" := ⟨o, ho, hc⟩
    have hu0 : A.units < cLine := by omega
    unfold pyHash
    first | unfold pyHashByItsType | skip
    first | refine wpAny_bind (wpAny_cRoomFor_or (.inr hu0) ?_) | skip
    refine wpAny_bind (wpAny_specialOf hT F.slot_tuple_hash.lookup ?_); show wpAny _ _ (if (some (Value.builtin "tuple.__hash__") == some Value.none) = true then _ else _) Q E s
    rw [if_neg (by rw [beq_builtin_none]; exact Bool.false_ne_true)]; refine wpAny_bind (wpAny_specialOf hT F.slot_tuple_hash.lookup ?_)
    show wpAny _ _ (callSpecialIfBoundUnlessNone? (.ref a) "__hash__" _ >>= _) Q E s; refine wpAny_bind (wpAny_callSpecialIfBoundUnlessNone?_slot hT F.slot_tuple_hash (wpAny_call_entry F.slot_tuple_hash hT F.entry_tuple_hash ?_ (F.args_tuple_hash_1 _)))
    show wpAny _ _ (Builtin.Tuple.tupleItemsOf (.ref a) >>= _) _ _ s; refine wpAny_bind (wpAny_tupleItemsOf ho hd ?_)
    refine wpAny_bind ?_
    rw [← Array.forIn_toList]
    refine hashes_ok ds A.in1 s its.toList #[] _ (by show A.units + 1 + _ < cLine; simp only [PyData.depth] at hu; omega) r ?_
    have e0 : ((#[] : Array Int) ++ (hashDs w ds).toArray).toList = hashDs w ds := by simp
    show wpAny _ _ (retInt (Builtin.Tuple.tupleHashOf ((#[] : Array Int) ++ (hashDs w ds).toArray).toList)) _ _ _
    rw [e0]
    refine wpAny_ret_mkInt ?_
    simp only [hashD, drawsD] at h
    generalize hx : Builtin.Tuple.tupleHashOf (hashDs w ds) = x at h
    show wpAny _ _ (if (decide (-(2 : Int) ^ 63 ≤ x) && decide (x < 2 ^ 63)) = true then _ else _) Q E _
    unfold reduceHash at h
    by_cases hr : (decide (-(2 : Int) ^ 63 ≤ x) && decide (x < 2 ^ 63)) = true
    · rw [if_pos hr] at h ⊢
      exact wpAny_pure (by simpa [Nat.add_assoc] using h)
    · rw [if_neg hr] at h ⊢
      exact wpAny_bind (wpAny_rule (wpAny_pure (by simpa [Nat.add_assoc] using h)))
  | .none, _, _, _, _, _, x, _ => x.elim
  | .bool _, _, _, _, _, _, x, _ => x.elim
  | .list _, _, _, _, _, _, x, _ => x.elim
  | .dict _, _, _, _, _, _, x, _ => x.elim
theorem hashes_ok : ∀ (ds : List PyData) (A : Around) (s : Shared) (vs : List Value) (b : Array Int) (Q : Array Int → Shared → Prop), A.units + PyData.depthAll ds < cLine → NHs s.heap ds vs →
    Q (b ++ (hashDs w ds).toArray) { s with toks := s.toks + drawsDs ds } →
    wpAny (model prog w) A (forIn vs b fun x (r : Array Int) => do
      let h ← pyHash x
      pure PUnit.unit
      pure (ForInStep.yield (r.push h))) Q E s
  | [], A, s, vs, b, Q, _, e, h => by
    cases (show vs = [] from e)
    rw [List.forIn_nil]
    exact wpAny_pure (by simpa [hashDs, drawsDs] using h)
  | d :: ds, A, s, vs, b, Q, hu, ⟨v, r, e, h1, h2⟩, h => by
    subst e
    rw [List.forIn_cons]
    have hm : PyData.depthAll (d :: ds) = max d.depth (PyData.depthAll ds) := rfl
    rw [hm] at hu
    refine wpAny_bind (wpAny_bind (hash_ok d A s v _ (by omega) h1 ?_))
    refine wpAny_bind (wpAny_pure (wpAny_pure ?_))
    refine hashes_ok ds A { s with toks := s.toks + drawsD d } r (b.push (hashD w d)) Q (by omega) h2 ?_
    have e1 : b ++ (hashDs w (d :: ds)).toArray = b.push (hashD w d) ++ (hashDs w ds).toArray := by simp [hashDs]
    have e2 : s.toks + drawsDs (d :: ds) = s.toks + drawsD d + drawsDs ds := by simp [drawsDs, Nat.add_assoc]
    rw [e1, e2] at h
    exact h
end
theorem quiet_val (n : Nat) {v : Value} (h : carriedByValue v = true) : eqIsQuiet n v = pure true := by
  cases v with
  | ref a => simp [carriedByValue] at h
  | _ => first | rfl | simp [eqIsQuiet] | (unfold eqIsQuiet; rfl)
mutual
theorem quiet_ok : ∀ (d : PyData) (n : Nat) (A : Around) (s : Shared) (v : Value) (Q : Bool → Shared → Prop), d.depth ≤ n → NH s.heap d v → Q true s → wpAny (model prog w) A (eqIsQuiet n v) Q E s
  | .int i, n, A, s, v, Q, _, ⟨t, e⟩, h => by subst e; rw [quiet_val n rfl]; exact wpAny_pure h
  | .str i, n, A, s, v, Q, _, ⟨t, e⟩, h => by subst e; rw [quiet_val n rfl]; exact wpAny_pure h
  | .tuple ds, 0, A, s, v, Q, hn, _, _ => by simp [PyData.depth] at hn
  | .tuple ds, n + 1, A, s, v, Q, hn, ⟨a, o, its, m, e, ho, hc, hd, r⟩, h => by
    subst e
    have hT : s.TypeIs (.ref a) "tuple" := ⟨o, ho, hc⟩
    unfold eqIsQuiet
    refine wpAny_bind (wpAny_specialOf hT F.slot_tuple_eq.lookup ?_); show wpAny _ _ (isInstance (.ref a) (.type "tuple") >>= _) _ _ s
    refine wpAny_bind (wpAny_isInstance hT isSubtype_tuple_tuple ?_); simp only [Bool.not_true, Bool.false_eq_true, if_false]
    refine wpAny_bind (wpAny_seqItems ho hd (wpAny_bind ?_)); show wpAny _ _ (forIn its _ _) _ _ s
    rw [← Array.forIn_toList]
    exact quiets_ok ds n A s its.toList _ (by simp only [PyData.depth] at hn; omega) r (wpAny_pure h)
  | .none, _, _, _, _, _, _, x, _ => x.elim
  | .bool _, _, _, _, _, _, _, x, _ => x.elim
  | .list _, _, _, _, _, _, _, x, _ => x.elim
  | .dict _, _, _, _, _, _, _, x, _ => x.elim
theorem quiets_ok : ∀ (ds : List PyData) (n : Nat) (A : Around) (s : Shared) (vs : List Value) (Q : Option Bool × PUnit → Shared → Prop), PyData.depthAll ds ≤ n → NHs s.heap ds vs → Q (none, ()) s →
    wpAny (model prog w) A (forIn vs (none, ()) fun y (r : Option Bool × PUnit) => do
      let b ← eqIsQuiet n y
      if (!b) = true then pure (ForInStep.done (some false, ())) else do
        pure PUnit.unit
        pure (ForInStep.yield (none, ()))) Q E s
  | [], n, A, s, vs, Q, _, e, h => by
    cases (show vs = [] from e)
    rw [List.forIn_nil]
    exact wpAny_pure h
  | d :: ds, n, A, s, vs, Q, hn, ⟨v, r, e, h1, h2⟩, h => by
    subst e
    rw [List.forIn_cons]
    have hm : PyData.depthAll (d :: ds) = max d.depth (PyData.depthAll ds) := rfl
    rw [hm] at hn
    refine wpAny_bind (wpAny_bind (quiet_ok d n A s v _ (by omega) h1 ?_))
    simp only [Bool.not_true, Bool.false_eq_true, if_false]
    exact wpAny_pure (quiets_ok ds n A s r Q (by omega) h2 h)
end
end
/-- a key: a tuple of whole numbers, texts and such tuples, not too deep -/
def isK (d : PyData) : Prop := (∃ ds, d = .tuple ds) ∧ kD d = true ∧ d.depth ≤ 8
noncomputable instance decD : DecidableEq PyData := fun a b => Classical.propDecidable (a = b)
noncomputable def nestKind (prog : Program) (w : World) : HeapKind prog w PyData where
  is := fun h d a => isK d ∧ NH h d (.ref a)
  hash := hashD w
  draws := drawsD
  room := fun A => A.units + 8 < cLine
  inj := fun hx hy => NH.inj _ _ _ hx.2 hy.2
  keeps := fun {h h' k a d o es ep} x ho hd hs => ⟨x.1, NH.keeps (fun b ob its n hb hdb => (hs.2 b (fun z => by
    subst z
    rw [ho] at hb
    cases hb
    rw [hd] at hdb
    cases hdb)).trans hb) _ _ x.2⟩
  pyHash := fun {A E s k a Q} hu hk h => hash_ok k A s _ Q (by have := hk.1.2.2; omega) hk.2 h
  eqBool := fun {A E s x y a b Q} hu hx hy h => by
    obtain ⟨as, ra⟩ := NH.reads _ _ hx.2
    obtain ⟨bs, rb⟩ := NH.reads _ _ hy.2
    refine SeqAt.eqAt_reads x y A s _ _ as bs ra rb (kD_lay _ hx.1.2.1) (kD_lay _ hy.1.2.1) (by have := hx.1.2.2; omega) prog w E Q ?_
    have e : PyData.eqv x y = decide (x = y) := by
      have := kD_eqv x y hx.1.2.1 hy.1.2.1
      by_cases q : x = y
      · rw [decide_eq_true q]; exact this.mpr q
      · rw [decide_eq_false q]
        cases z : PyData.eqv x y with
        | true => exact absurd (this.mp z) q
        | false => rfl
    rw [e]
    exact h
  quiet := fun {A E s k a Q} hk h => quiet_ok k 8 A s _ Q hk.1.2.2 hk.2 h
end KN
set_option Elab.async false
set_option linter.all false
set_option maxRecDepth 100000
/-! THE HAND LAYER, for ints, bools, texts, own classes, LISTS and tuples (index, slices, in, append, pop ..), calls, loops. Paste it whole ahead of your own text; what your proof does not reach may be deleted. -/
namespace L2
open PySem PySem.Spec PyProof.Rows

/-- a key: an int or a str -/
abbrev Key := Sum Int Str
def keyIs : Key → Value → Bool
  | .inl k, v => Value.isInt k v
  | .inr x, v => Value.isStrOf x v
def keyH (w : World) : Key → Int
  | .inl k => hashInt k
  | .inr x => hashStr w x
theorem keyIs_shape : ∀ {k : Key} {v : Value}, keyIs k v = true → (∃ i t, k = Sum.inl i ∧ v = Value.int i t) ∨ (∃ x t, k = Sum.inr x ∧ v = Value.str x t)
  | .inl i, v, h => by
    obtain ⟨t, e⟩ := Value.isInt_shape (k := i) (v := v) h
    exact .inl ⟨i, t, rfl, e⟩
  | .inr x, v, h => by
    obtain ⟨t, e⟩ := Value.isStrOf_shape (x := x) (v := v) h
    exact .inr ⟨x, t, rfl, e⟩
theorem keyIs_int (i : Int) (t : Tok) : keyIs (.inl i) (.int i t) = true := by simp [keyIs, Value.isInt]
theorem keyIs_str (x : Str) (t : Tok) : keyIs (.inr x) (.str x t) = true := by simp [keyIs, Value.isStrOf]
theorem key_ll (a b : Int) : decide ((Sum.inl a : Key) = Sum.inl b) = (a == b) := by
  by_cases e : a = b
  · subst e; simp
  · have h : ¬ (Sum.inl a : Key) = Sum.inl b := fun q => e (Sum.inl.inj q)
    rw [decide_eq_false h]
    exact (beq_eq_false_iff_ne.mpr e).symm
theorem key_rr (a b : Str) : decide ((Sum.inr a : Key) = Sum.inr b) = decide (a = b) := by
  by_cases e : a = b
  · subst e; simp
  · have h : ¬ (Sum.inr a : Key) = Sum.inr b := fun q => e (Sum.inr.inj q)
    rw [decide_eq_false h, decide_eq_false e]
theorem key_lr (a : Int) (b : Str) : decide ((Sum.inl a : Key) = Sum.inr b) = false := decide_eq_false (fun q => nomatch q)
theorem key_rl (a : Str) (b : Int) : decide ((Sum.inr a : Key) = Sum.inl b) = false := decide_eq_false (fun q => nomatch q)

def mixKind (prog : Program) (w : World) : PySem.KeyKind prog w Key where
  is := keyIs
  hash := keyH w
  inj := fun v a b ha hb => by
    rcases keyIs_shape ha with ⟨i, t, rfl, rfl⟩ | ⟨x, t, rfl, rfl⟩
    · rcases keyIs_shape hb with ⟨j, u, rfl, e⟩ | ⟨y, u, rfl, e⟩
      · injection e with e1 _; rw [e1]
      · exact nomatch e
    · rcases keyIs_shape hb with ⟨j, u, rfl, e⟩ | ⟨y, u, rfl, e⟩
      · exact nomatch e
      · injection e with e1 _; rw [e1]
  byValue := fun k v h => by
    rcases keyIs_shape h with ⟨i, t, rfl, rfl⟩ | ⟨x, t, rfl, rfl⟩ <;> rfl
  pyHash := fun hv h => by
    rcases keyIs_shape hv with ⟨i, t, rfl, rfl⟩ | ⟨x, t, rfl, rfl⟩
    · exact wpAny_pyHash_int h
    · exact wpAny_pyHash_str h
  eqBool := fun hu hv h => by
    rcases keyIs_shape hu with ⟨i, t, rfl, rfl⟩ | ⟨x, t, rfl, rfl⟩
    · rcases keyIs_shape hv with ⟨j, u, rfl, rfl⟩ | ⟨y, u, rfl, rfl⟩
      · rw [key_ll] at h; exact wpAny_eqBool_int h
      · rw [key_lr] at h; exact SeqAt.EqAt.int_str i t y u _ _ _ _ h
    · rcases keyIs_shape hv with ⟨j, u, rfl, rfl⟩ | ⟨y, u, rfl, rfl⟩
      · rw [key_rl] at h; exact SeqAt.EqAt.str_int x t j u _ _ _ _ h
      · rw [key_rr] at h; exact wpAny_eqBool_str h
  «strs» := fun k x t v h => by
    rcases keyIs_shape h with ⟨i, u, rfl, e⟩ | ⟨y, u, rfl, e⟩
    · exact nomatch e
    · injection e with e1 _
      subst e1
      cases v <;> rfl

theorem mixKind_int (prog : Program) (w : World) (i : Int) (t : Tok) : (mixKind prog w).is (.inl i) (.int i t) = true := keyIs_int i t
theorem mixKind_str (prog : Program) (w : World) (x : Str) (t : Tok) : (mixKind prog w).is (.inr x) (.str x t) = true := keyIs_str x t
end L2

namespace L2
open PySem PySem.Spec PyProof.Rows

/-- a value, without the heap -/
inductive V where
  | non | bl (b : Bool) | int (i : Int) | str (x : Str) | byt (b : Array UInt8) | flt (b : UInt64) | ref (a : Addr) | ty (n : String)
  deriving DecidableEq

def RelV : V → Value → Prop
  | .non, u => u = Value.none
  | .bl b, u => u = Value.bool b
  | .int i, u => ∃ t, u = Value.int i t
  | .str x, u => ∃ t, u = Value.str x t
  | .byt b, u => ∃ t, u = Value.bytes b t
  | .flt b, u => ∃ t, u = Value.float b t
  | .ref a, u => u = Value.ref a
  | .ty n, u => u = Value.type n

abbrev Vals : List V → List Value → Prop := Paired RelV
theorem Vals.length {xs : List V} {us : List Value} (r : Vals xs us) : xs.length = us.length := Paired.length r
theorem Vals.get : ∀ {xs : List V} {us : List Value} {i : Nat} {x : V}, Vals xs us → xs[i]? = some x → ∃ u, us[i]? = some u ∧ RelV x u
  | _, _, _, _, .nil, e => by simp at e
  | _, _, 0, _, .cons r _, e => by simp at e; subst e; exact ⟨_, rfl, r⟩
  | _, _, i + 1, x, .cons _ t, e => by
    obtain ⟨u, h1, h2⟩ := Vals.get (i := i) (x := x) t (by simpa using e)
    exact ⟨u, by simpa using h1, h2⟩
theorem Vals.set {x : V} {u : Value} (r : RelV x u) : ∀ {xs : List V} {us : List Value} (i : Nat), Vals xs us → Vals (xs.set i x) (us.set i u)
  | _, _, _, .nil => .nil
  | _, _, 0, .cons _ t => .cons r t
  | _, _, i + 1, .cons q t => .cons q (Vals.set r i t)
theorem Vals.append : ∀ {xs ys : List V} {us ws : List Value}, Vals xs us → Vals ys ws → Vals (xs ++ ys) (us ++ ws)
  | _, _, _, _, .nil, s => s
  | _, _, _, _, .cons r t, s => .cons r (Vals.append t s)
theorem Vals.take : ∀ {xs : List V} {us : List Value} (n : Nat), Vals xs us → Vals (xs.take n) (us.take n)
  | _, _, 0, _ => .nil
  | _, _, _ + 1, .nil => .nil
  | _, _, n + 1, .cons r t => .cons r (Vals.take n t)
theorem Vals.drop : ∀ {xs : List V} {us : List Value} (n : Nat), Vals xs us → Vals (xs.drop n) (us.drop n)
  | _, _, 0, r => r
  | _, _, _ + 1, .nil => .nil
  | _, _, n + 1, .cons _ t => Vals.drop n t
def RelO : Option V → Option Value → Prop
  | some v, some u => RelV v u
  | none, none => True
  | _, _ => False
def KV {κ : Type} : List (κ × V) → List (κ × Value) → Prop := Paired fun (p : κ × V) (q : κ × Value) => p.1 = q.1 ∧ RelV p.2 q.2

/-- a key of a dict (00_mix): an int or a text -/
def kV : Key → V
  | .inl i => .int i
  | .inr x => .str x

/-- what stands at a tracked address -/
inductive HO where
  /-- a list -/
  | lst (xs : List V)
  /-- a tuple (never changes) -/
  | tup (xs : List V)
  /-- a dict whose keys are ints and texts; one whose keys are tuples of ints and texts (the empty one is both) -/
  | dK (kvs : List (Key × V)) | dT (kvs : List (List Key × V))
  | dN (ks : List PyData)
  /-- a set of ints: its members, its size -/
  | set (S : Int → Bool) (n : Nat)
  /-- an instance of the class at C, its dict at dx, its attributes -/
  | ins (C dx : Addr) (fs : List (Str × V))
  /-- the dict of the instance at x -/
  | own (x : Addr)
  /-- the dict of an exception -/
  | xd (fs : List (Str × V))
  /-- a bound method, f of x -/
  | met (f x : Addr)
  /-- a range object lo, lo + 1, .. below hi -/
  | rng (lo hi : Int)
  /-- a thing that is known to the object (the script; a dict while a loop walks it): read, never written while it is so -/
  | frz (o : Obj) (u : HO)
  /-- a code object's table -/
  | tbl (ps : Array Value)
  /-- any other thing, by what is true of its one object (a def of one's own: SetO a S n := HO.ext fun h => ..) -/
  | ext (φ : Heap → Prop)

abbrev Hp := Addr → Option HO
def upd (H : Hp) (a : Addr) (o : HO) : Hp := fun b => if b = a then some o else H b
theorem upd_same {H : Hp} {a : Addr} {o : HO} : upd H a o a = some o := by unfold upd; rw [if_pos rfl]
theorem upd_ne {H : Hp} {a b : Addr} {o : HO} (h : b ≠ a) : upd H a o b = H b := by unfold upd; rw [if_neg h]
/-- two objects of different content stand apart -/
theorem ne_of {H : Hp} {a b : Addr} {o u : HO} (h : H a = some o) (h' : H b = some u) (d : o ≠ u) : a ≠ b := by
  intro e; subst e; rw [h] at h'; exact d (Option.some.inj h')
theorem ne_of_none {H : Hp} {a b : Addr} {o : HO} (h : H a = some o) (h' : H b = none) : a ≠ b := by
  intro e; subst e; rw [h] at h'; cases h'

mutual
def NR (H : Hp) : PyData → V → Prop
  | .int i, v => v = .int i
  | .str x, v => v = .str x
  | .tuple ds, v => ∃ a vs, v = .ref a ∧ H a = some (.tup vs) ∧ NRs H ds vs
  | _, _ => False
def NRs (H : Hp) : List PyData → List V → Prop
  | [], vs => vs = []
  | d :: ds, vs => ∃ v r, vs = v :: r ∧ NR H d v ∧ NRs H ds r
end
mutual
theorem NR.mono {H H' : Hp} (ht : ∀ b xs, H b = some (.tup xs) → H' b = some (.tup xs)) : ∀ (d : PyData) (v : V), NR H d v → NR H' d v
  | .int _, _, x => x
  | .str _, _, x => x
  | .tuple ds, _, ⟨a, vs, e, h, r⟩ => ⟨a, vs, e, ht _ _ h, NRs.mono ht ds vs r⟩
  | .none, _, x => x.elim
  | .bool _, _, x => x.elim
  | .list _, _, x => x.elim
  | .dict _, _, x => x.elim
theorem NRs.mono {H H' : Hp} (ht : ∀ b xs, H b = some (.tup xs) → H' b = some (.tup xs)) : ∀ (d : List PyData) (v : List V), NRs H d v → NRs H' d v
  | [], _, x => x
  | d :: ds, _, ⟨v, r, e, h, t⟩ => ⟨v, r, e, NR.mono ht d v h, NRs.mono ht ds r t⟩
end
section
variable (P : Program) (w : World)
def ObjOk (H : Hp) (h : Heap) (a : Addr) : HO → Prop
  | .lst xs => xs.length ≤ sizeLine ∧ ∃ (its : List Value) (n : Nat), Vals xs its ∧ h.get? a = some { cls := .type "list", data := .seq its.toArray n }
  | .tup xs => xs.length ≤ sizeLine ∧ ∃ its : List Value, Vals xs its ∧ IsTup h a its.toArray
  | .dK kvs => kvs.length ≤ sizeLine ∧ (a == sysModules) = false ∧ ∃ vs, KV kvs vs ∧ h.DictOf (mixKind P w) a vs
  | .dT kvs => kvs.length ≤ sizeLine ∧ (a == sysModules) = false ∧ ∃ xs : List (List Key × Addr × Value),
      Paired (fun (p : List Key × V) (q : List Key × Addr × Value) => p.1 = q.1 ∧ H q.2.1 = some (.tup (p.1.map kV)) ∧ RelV p.2 q.2.2) kvs xs ∧
      ∃ o es ep, h.get? a = some o ∧ o.ExactDict ∧ o.data = .dict es ep ∧ es.toList = xs.map (entryOfKey (tupleKind (mixKind P w))) ∧ (xs.map (·.1)).Nodup
  | .dN ks => ks.length ≤ sizeLine ∧ (a == sysModules) = false ∧ ∃ xs : List (PyData × Addr × Value), xs.map (·.1) = ks ∧ (∀ x ∈ xs, KN.isK x.1 ∧ NR H x.1 (.ref x.2.1)) ∧
      ∃ o es ep, h.get? a = some o ∧ o.ExactDict ∧ o.data = .dict es ep ∧ es.toList = xs.map (entryOfKey (KN.nestKind P w)) ∧ (xs.map (·.1)).Nodup
  | .set S n => h.SetOf (intKind P w) a S n
  | .ins C dx fs => H dx = some (.own a) ∧ fs.length ≤ 1000 ∧ dx ≠ a ∧ h.get? a = some (PySem.W.instObj C dx) ∧
      ∃ mA, h.Ns1 dx mA ∧ (∀ f, RelO (fs.lookup f) (mA f)) ∧ PySem.Within mA (fs.map (·.1))
  | .own _ => ∃ o, h.get? a = some o
  | .xd fs => ∃ mA, h.Ns1 a mA ∧ ∀ f, RelO (fs.lookup f) (mA f)
  | .rng lo hi => ∃ t u v, h.get? a = some { cls := .type "range", data := .fields #[.int lo t, .int hi u, .int 1 v] }
  | .frz o u => h.get? a = some o ∧ ObjOk H h a u
  | .tbl ps => h.get? a = some { cls := .none, data := .fields ps }
  | .met f x => h.get? a = some (PySem.W.methodObj (.ref f) (.ref x))
  | .ext φ => φ h ∧ (∃ o, h.get? a = some o) ∧ ∀ h1 h2 : Heap, φ h1 → (∀ o, h1.get? a = some o → h2.get? a = some o) → φ h2
/-- the abstract heap is held -/
def HOk (H : Hp) (h : Heap) : Prop := ∀ a o, H a = some o → ObjOk P w H h a o
end

section
variable {P : Program} {w : World} {H H' : Hp} {h h' : Heap} {a : Addr} {o : HO}
theorem ObjOk.lt (x : ObjOk P w H h a o) : a < h.objs.size := by
  cases o with
  | lst xs => obtain ⟨_, _, _, _, e⟩ := x; exact Heap.lt_size e
  | tup xs => obtain ⟨_, _, _, p⟩ := x; exact p.lt
  | dK kvs => obtain ⟨_, _, _, _, o, _, _, e, _⟩ := x; exact Heap.lt_size e
  | dT kvs => obtain ⟨_, _, _, _, o, _, _, e, _⟩ := x; exact Heap.lt_size e
  | dN ks => obtain ⟨_, _, _, _, _, o, _, _, e, _⟩ := x; exact Heap.lt_size e
  | set S n => obtain ⟨o, _, _, _, e, _⟩ := x; exact Heap.lt_size e
  | ins C dx fs => obtain ⟨_, _, _, e, _⟩ := x; exact Heap.lt_size e
  | own y => obtain ⟨_, e⟩ := x; exact Heap.lt_size e
  | xd fs => obtain ⟨_, ⟨_, _, _, e, _⟩, _⟩ := x; exact Heap.lt_size e
  | rng lo hi => obtain ⟨_, _, _, e⟩ := x; exact Heap.lt_size e
  | frz ob u => obtain ⟨e, _⟩ := x; exact Heap.lt_size e
  | tbl ps => exact Heap.lt_size (show h.get? a = some _ from x)
  | met f y => exact Heap.lt_size (show h.get? a = some _ from x)
  | ext φ => obtain ⟨_, ⟨_, e⟩, _⟩ := x; exact Heap.lt_size e
theorem Paired.mapP {α β : Type} {F G : α → β → Prop} : ∀ {l₁ : List α} {l₂ : List β}, Paired F l₁ l₂ → (∀ a b, F a b → G a b) → Paired G l₁ l₂
  | _, _, .nil, _ => .nil
  | _, _, .cons r t, f => .cons (f _ _ r) (Paired.mapP t f)
/-- what an object's description leans on: its own object, its own dict, the tuples -/
theorem ObjOk.stay (x : ObjOk P w H h a o) (k : ∀ b u, (b = a ∨ H b = some (.own a)) → h.get? b = some u → h'.get? b = some u)
    (ho : ∀ b, H b = some (.own a) → H' b = some (.own a)) (ht : ∀ b xs, H b = some (.tup xs) → H' b = some (.tup xs)) : ObjOk P w H' h' a o := by
  induction o with
  | lst xs => obtain ⟨z, its, n, r, e⟩ := x; exact ⟨z, its, n, r, k _ _ (.inl rfl) e⟩
  | tup xs => obtain ⟨z, its, r, ob, e, c⟩ := x; exact ⟨z, its, r, ob, k _ _ (.inl rfl) e, c⟩
  | dK kvs => obtain ⟨z, y, vs, r, ob, es, ep, e, c⟩ := x; exact ⟨z, y, vs, r, ob, es, ep, k _ _ (.inl rfl) e, c⟩
  | dT kvs =>
    obtain ⟨z, y, xs, r, ob, es, ep, e, c⟩ := x
    exact ⟨z, y, xs, Paired.mapP r fun p q z => ⟨z.1, ht _ _ z.2.1, z.2.2⟩, ob, es, ep, k _ _ (.inl rfl) e, c⟩
  | dN ks =>
    obtain ⟨z, y, xs, r1, r2, ob, es, ep, e, c⟩ := x
    exact ⟨z, y, xs, r1, fun q hq => ⟨(r2 q hq).1, NR.mono ht _ _ (r2 q hq).2⟩, ob, es, ep, k _ _ (.inl rfl) e, c⟩
  | set S n => obtain ⟨ob, es, ep, t, e, c⟩ := x; exact ⟨ob, es, ep, t, k _ _ (.inl rfl) e, c⟩
  | ins C dx fs =>
    obtain ⟨d, z, ne, e, mA, ⟨od, es, ep, e2, c⟩, r⟩ := x
    exact ⟨ho _ d, z, ne, k _ _ (.inl rfl) e, mA, ⟨od, es, ep, k _ _ (.inr d) e2, c⟩, r⟩
  | own y => obtain ⟨ob, e⟩ := x; exact ⟨ob, k _ _ (.inl rfl) e⟩
  | xd fs => obtain ⟨mA, ⟨od, es, ep, e, c⟩, r⟩ := x; exact ⟨mA, ⟨od, es, ep, k _ _ (.inl rfl) e, c⟩, r⟩
  | rng lo hi => obtain ⟨t, u, v, e⟩ := x; exact ⟨t, u, v, k _ _ (.inl rfl) e⟩
  | frz ob u ih => obtain ⟨e, q⟩ := x; exact ⟨k _ _ (.inl rfl) e, ih q⟩
  | tbl ps =>
    have e : h.get? a = some { cls := .none, data := .fields ps } := x
    show h'.get? a = some { cls := .none, data := .fields ps }
    exact k a _ (.inl rfl) e
  | met f y =>
    have e : h.get? a = some (PySem.W.methodObj (.ref f) (.ref y)) := x
    show h'.get? a = some (PySem.W.methodObj (.ref f) (.ref y))
    exact k a _ (.inl rfl) e
  | ext φ => obtain ⟨p, ⟨o, e⟩, st⟩ := x; exact ⟨st _ _ p fun o q => k _ _ (.inl rfl) q, ⟨o, k _ _ (.inl rfl) e⟩, st⟩
theorem HOk.lt (x : HOk P w H h) (e : H a = some o) : a < h.objs.size := (x a o e).lt
theorem HOk.fresh (x : HOk P w H h) (e : h.objs.size ≤ a) : H a = none := by
  cases q : H a with
  | none => rfl
  | some u => exact absurd (Nat.lt_of_lt_of_le (x.lt q) e) (Nat.lt_irrefl _)
/-- every object of the heap is kept -/
theorem HOk.kept (x : HOk P w H h) (k : ∀ b u, h.get? b = some u → h'.get? b = some u) : HOk P w H h' := fun a o e =>
  (x a o e).stay (fun b u _ q => k b u q) (fun _ q => q) fun _ _ q => q
/-- a new object is laid and tracked -/
theorem HOk.laid (x : HOk P w H h) (k : ∀ b u, h.get? b = some u → h'.get? b = some u) (hp : h.objs.size ≤ a) (new : ObjOk P w (upd H a o) h' a o) : HOk P w (upd H a o) h' := fun b u e => by
  have hn := x.fresh hp
  by_cases hb : b = a
  · subst hb; rw [upd_same] at e; cases e; exact new
  · rw [upd_ne hb] at e
    exact (x b u e).stay (fun c v _ q => k c v q) (fun c q => by rw [upd_ne (ne_of_none q hn)]; exact q) fun c xs q => by rw [upd_ne (ne_of_none q hn)]; exact q
end

/-- what may be read as u: it is u, or a known u -/
def Rd (H : Hp) (a : Addr) (u : HO) : Prop := H a = some u ∨ ∃ o, H a = some (.frz o u)
theorem Rd.of {H : Hp} {a : Addr} {u : HO} (h : H a = some u) : Rd H a u := .inl h
theorem Rd.ok {P : Program} {w : World} {H : Hp} {h : Heap} {a : Addr} {u : HO} (r : Rd H a u) (x : HOk P w H h) : ObjOk P w H h a u := by
  rcases r with r | ⟨o, r⟩
  · exact x a u r
  · obtain ⟨_, q⟩ := x a _ r
    exact q
/-- what may be written -/
def Mut : Option HO → Prop
  | some (.lst _) => True
  | some (.dK _) => True
  | some (.dT _) => True
  | some (.dN _) => True
  | some (.set _ _) => True
  | some (.ins _ _ _) => True
  | some (.ext _) => True
  | _ => False
section
variable {P : Program} {w : World} {H : Hp} {h h' : Heap} {x e : Addr} {o' : HO}
/-- the object at e is changed: x itself, or the dict of the instance x -/
theorem HOk.write (ok : HOk P w H h) (mu : Mut (H x)) (he : e = x ∨ H e = some (.own x)) (k : ∀ b u, b ≠ e → h.get? b = some u → h'.get? b = some u) (heo : ∃ u, h'.get? e = some u)
    (new : ObjOk P w (upd H x o') h' x o') : HOk P w (upd H x o') h' := fun b u q => by
  have nown : ∀ c y, H c = some (.own y) → c ≠ x := fun c y r z => by subst z; rw [r] at mu; exact mu
  have ntup : ∀ c xs, H c = some (.tup xs) → c ≠ x := fun c xs r z => by subst z; rw [r] at mu; exact mu
  by_cases hb : b = x
  · subst hb; rw [upd_same] at q; cases q; exact new
  · rw [upd_ne hb] at q
    by_cases hbe : b = e
    · have q' : H b = some (.own x) := by
        rcases he with z | z
        · exact absurd (hbe.trans z) hb
        · rw [hbe]; exact z
      rw [q] at q'; cases q'
      obtain ⟨v, hv⟩ := heo
      exact ⟨v, by rw [hbe]; exact hv⟩
    · refine (ok b u q).stay (fun c v hc r => k c v ?_ r) (fun c r => by rw [upd_ne (nown c b r)]; exact r) fun c xs r => by rw [upd_ne (ntup c xs r)]; exact r
      rcases hc with rfl | hc
      · exact hbe
      · rintro rfl
        rcases he with z | z
        · exact nown c b hc z
        · rw [hc] at z; cases z; exact hb rfl
end

/-! ### kept unless tracked; of the frames at fs (the callers') the slots may change (an exception that passes writes there); of the records at ex (iterators) nothing is said -/
structure Un (fs ex : List Addr) (H H' : Hp) (h h' : Heap) : Prop where
  keep : ∀ b o, h.get? b = some o → H b = none → b ∉ fs → b ∉ ex → h'.get? b = some o
  slot : ∀ b o, h.get? b = some o → H b = none → b ∈ fs → b ∉ ex → ∃ sl, h'.get? b = some { o with slots := sl }
  free : ∀ b o, h.get? b = some o → H b = none → b ∉ ex → H' b = none
  there : ∀ b o, h.get? b = some o → b ∉ ex → ∃ o', h'.get? b = some o'
  tups : ∀ b xs, H b = some (.tup xs) → H' b = some (.tup xs)
  frzs : ∀ b o u, H b = some (.frz o u) → H' b = some (.frz o u)
  tbls : ∀ b ps, H b = some (.tbl ps) → ∃ more, H' b = some (.tbl (ps ++ more))
section
variable {fs fs' ex ex' : List Addr} {H H1 H2 : Hp} {h h1 h2 h' : Heap} {a x e : Addr} {o : HO}
theorem Un.any (u : Un fs ex H H1 h h1) {b : Addr} {ob : Obj} (q : h.get? b = some ob) (n : H b = none) (hx : b ∉ ex) : ∃ sl, h1.get? b = some { ob with slots := sl } := by
  by_cases hb : b ∈ fs
  · exact u.slot b ob q n hb hx
  · exact ⟨ob.slots, u.keep b ob q n hb hx⟩
theorem Un.trans (a : Un fs ex H H1 h h1) (b : Un fs ex H1 H2 h1 h2) : Un fs ex H H2 h h2 where
  keep := fun c ob q n hc hx => b.keep c ob (a.keep c ob q n hc hx) (a.free c ob q n hx) hc hx
  slot := fun c ob q n hc hx => by
    obtain ⟨sl, e1⟩ := a.slot c ob q n hc hx
    obtain ⟨sl', e2⟩ := b.slot c _ e1 (a.free c ob q n hx) hc hx
    exact ⟨sl', e2⟩
  free := fun c ob q n hx => by
    obtain ⟨o', e1⟩ := a.there c ob q hx
    exact b.free c o' e1 (a.free c ob q n hx) hx
  there := fun c ob q hx => by
    obtain ⟨o', e1⟩ := a.there c ob q hx
    exact b.there c o' e1 hx
  tups := fun c xs q => b.tups c xs (a.tups c xs q)
  frzs := fun c ob xs q => b.frzs c ob xs (a.frzs c ob xs q)
  tbls := fun c ps q => by
    obtain ⟨m1, e1⟩ := a.tbls c ps q
    obtain ⟨m2, e2⟩ := b.tbls c _ e1
    exact ⟨m1 ++ m2, by rw [e2, Array.append_assoc]⟩
theorem Un.kept (k : ∀ b u, h.get? b = some u → h'.get? b = some u) : Un fs ex H H h h' :=
  ⟨fun b ob q _ _ _ => k b ob q, fun b ob q _ _ _ => ⟨ob.slots, k b ob q⟩, fun _ _ _ n _ => n, fun b ob q _ => ⟨ob, k b ob q⟩, fun _ _ q => q, fun _ _ _ q => q, fun _ ps q => ⟨#[], by rw [q]; simp⟩⟩
theorem Un.refl : Un fs ex H H h h := Un.kept fun _ _ q => q
theorem Un.laid (k : ∀ b u, h.get? b = some u → h'.get? b = some u) (hp : h.objs.size ≤ a) (hn : H a = none) : Un fs ex H (upd H a o) h h' where
  keep := fun b u q _ _ _ => k b u q
  slot := fun b u q _ _ _ => ⟨u.slots, k b u q⟩
  free := fun b u q n _ => by rw [upd_ne (Nat.ne_of_lt (Nat.lt_of_lt_of_le (Heap.lt_size q) hp))]; exact n
  there := fun b u q _ => ⟨u, k b u q⟩
  tups := fun b xs q => by rw [upd_ne (ne_of_none q hn)]; exact q
  frzs := fun b u xs q => by rw [upd_ne (ne_of_none q hn)]; exact q
  tbls := fun b ps q => ⟨#[], by rw [upd_ne (ne_of_none q hn), q]; simp⟩
theorem Un.write (mu : Mut (H x)) (he : e = x ∨ H e = some (.own x)) (k : ∀ b u, b ≠ e → h.get? b = some u → h'.get? b = some u) (heo : ∃ u, h'.get? e = some u) : Un fs ex H (upd H x o) h h' := by
  have hx : ∀ b, H b = none → b ≠ x := fun b n z => by subst z; rw [n] at mu; exact mu
  have hb : ∀ b, H b = none → b ≠ e := fun b n z => by
    subst z
    rcases he with r | r
    · exact hx b n r
    · rw [n] at r; cases r
  have hm : ∀ b u, H b = some u → ¬ Mut (some u) → b ≠ x := fun b u q nm z => by subst z; rw [q] at mu; exact nm mu
  refine ⟨fun b u q n _ _ => k b u (hb b n) q, fun b u q n _ _ => ⟨u.slots, k b u (hb b n) q⟩, fun b u q n _ => by rw [upd_ne (hx b n)]; exact n, fun b u q _ => ?_,
    fun b xs q => by rw [upd_ne (hm b _ q fun z => z)]; exact q, fun b u xs q => by rw [upd_ne (hm b _ q fun z => z)]; exact q, fun b ps q => ⟨#[], by rw [upd_ne (hm b _ q fun z => z), q]; simp⟩⟩
  by_cases hbe : b = e
  · subst hbe; exact heo
  · exact ⟨u, k b u hbe q⟩
theorem Un.mono (u : Un fs ex H H1 h h1) (hs : ∀ b ∈ fs, b ∈ fs') (hx : ∀ b ∈ ex, b ∈ ex') : Un fs' ex' H H1 h h1 :=
  ⟨fun b ob q n hb he => u.keep b ob q n (fun z => hb (hs b z)) fun z => he (hx b z), fun _ _ q n _ he => u.any q n fun z => he (hx _ z), fun b ob q n he => u.free b ob q n fun z => he (hx b z), fun b ob q he => u.there b ob q fun z => he (hx b z), u.tups, u.frzs, u.tbls⟩
end

/-! ### the heap without what is tracked -/
def trk (h : Heap) (H : Hp) : List Addr := (List.range h.objs.size).filter fun a => (H a).isSome
def hidT (h : Heap) (H : Hp) : Heap := PySem.W.hideAll h (trk h H)
theorem hidT_size (h : Heap) (H : Hp) : (hidT h H).objs.size = h.objs.size := PySem.W.hideAll_size _ _
theorem hidT_get {h : Heap} {H : Hp} {b : Addr} {o : Obj} (e : h.get? b = some o) (n : H b = none) : (hidT h H).get? b = some o :=
  PySem.W.hideAll_get _ e fun hm => by
    have q : (H b).isSome = true := (List.mem_filter.mp hm).2
    rw [n] at q; simp at q
theorem of_hidT {h : Heap} {H : Hp} {b : Addr} {o : Obj} (e : (hidT h H).get? b = some o) : h.get? b = some o ∧ H b = none := by
  have e' : h.get? b = some o := PySem.W.of_hideAll (trk h H) e
  refine ⟨e', ?_⟩
  cases q : H b with
  | none => rfl
  | some x =>
    have hm : b ∈ trk h H := List.mem_filter.mpr ⟨List.mem_range.mpr (Heap.lt_size e'), by simp [q]⟩
    have z : (hidT h H).get? b = none := PySem.W.hideAll_none (trk h H) hm
    rw [z] at e; cases e

/-! ### OpenK's ledger, filled with every new object but one -/
def allNews (g h : Heap) (L : Addr) : List (Addr × Obj) := (List.range h.objs.size).filterMap fun a => if a = L ∨ (g.get? a).isSome = true then none else (h.get? a).map fun o => (a, o)
def rest (g h : Heap) (L d : Addr) : List (Addr × Obj) := (allNews g h L).filter fun p => decide (p.1 ≠ d)
end L2

namespace L2
open PySem PySem.Spec PyProof.Rows

/-- the module's facts, over the base: the heap at the law's entry without what is tracked there -/
structure Mod (K : PySem.W.Frag) (mg : Str → Option Value) (base : Heap) : Prop where
  kin : K.In base
  glob : base.Ns mainGlobals mg
  blt : ∃ mb, base.Ns builtinsNs mb ∧ ∀ x : Str, x ≠ "__name__" → mb x = bootBuiltins x
  nolimit : base.NoLimit

/-- the context: a def's body (or a comprehension's block) running. base: fixed through the whole law; s₀, H₀: the entry; outer: the frames whose slots others may change (a def's callers); stack: all frames that run;
   ex: iterators that were made ahead of the entry and are walked here (a comprehension's); fn: the names whose cells were made at the entry (a def: all; a comprehension's block: its own); calm: not within an except suite; pn: pins that every state bears; xe: what is wanted of an exception that leaves the code -/
structure Cx where
  prog : Program
  w : World
  K : PySem.W.Frag
  mg : Str → Option Value
  base : Heap
  A : Around
  N : List Str
  s₀ : Shared
  H₀ : Hp
  env : Env
  outer : List Env
  stack : List Env
  ex : List Addr
  fn : Str → Bool
  calm : Bool
  pn : List (Addr × Obj)
  xe : Value → Shared → Prop
/-- the callers' frames -/
def frs (l : List Env) : List Addr := l.filterMap (·.frame)
abbrev Cx.fs (X : Cx) : List Addr := frs X.outer

def Vis (sc : Scope) (x : Str) : Prop := sc.names.lookup x = some .local ∨ sc.names.lookup x = some .cell ∨ sc.names.lookup x = some .free
def Loc (sc : Scope) (x : Str) : Prop := sc.names.lookup x = some .local ∨ sc.names.lookup x = some .cell
def Look (env : Env) (h : Heap) (m : Str → Option Value) (x : Str) (u : Value) : Prop :=
  (env.kindOf x = some .local ∧ m x = some u) ∨ ((env.kindOf x = some .cell ∨ env.kindOf x = some .free) ∧ ∃ c, env.cells.lookup x = some c ∧ h.IsCell c (some u))

structure Cx.Ok (X : Cx) : Prop where
  mod : Mod X.K X.mg X.base
  kind : X.env.scope.kind = .function
  glob : X.env.globals = mainGlobals
  blt : X.env.builtins = builtinsNs
  above : X.s₀.heap.objs.size ≤ X.env.locals
  inj : ∀ x y c, X.env.cells.lookup x = some c → X.env.cells.lookup y = some c → x = y
  has : ∀ x, (X.env.kindOf x = some .cell ∨ X.env.kindOf x = some .free) → ∃ c, X.env.cells.lookup x = some c
  cab : ∀ x c, X.fn x = true → X.env.cells.lookup x = some c → X.s₀.heap.objs.size ≤ c
  hd : X.calm = true → X.A.handled = none
  frames : X.A.frames = some X.stack
  stk : X.stack = X.outer ∨ (X.stack = X.env :: X.outer ∧ X.env.frame = some X.env.locals)
  exf : ∀ b ∈ X.ex, b ≠ X.env.locals ∧ ∀ x c, X.env.cells.lookup x = some c → c ≠ b
  bs : ∀ b o, X.base.get? b = some o → X.s₀.heap.get? b = some o ∧ X.H₀ b = none
  bsz : X.base.objs.size ≤ X.s₀.heap.objs.size
  noex : ∀ b o, X.base.get? b = some o → b ∉ X.ex
  exfs : ∀ b ∈ X.ex, b ∉ X.fs
  funs : X.s₀.heap.FunFrames X.base X.outer
  frf : ∀ b ∈ X.fs, X.H₀ b = none

structure Inv (X : Cx) (pins : List (Addr × Obj)) (σ : List (Option V)) (H : Hp) (s : Shared) : Prop where
  ok : X.Ok
  os : s.os = X.s₀.os
  bare : AllBare s.gens
  base : Un X.fs X.ex X.H₀ H X.s₀.heap s.heap
  loc : ∃ m, s.heap.Ns X.env.locals m ∧ ∀ (i : Nat) (x : Str) (v : V), X.N[i]? = some x → σ[i]? = some (some v) → Vis X.env.scope x → ∃ u, RelV v u ∧ Look X.env s.heap m x u
  cell : ∀ x c, X.env.cells.lookup x = some c → ∃ v, s.heap.IsCell c v
  free : H X.env.locals = none
  freeC : ∀ x c, X.env.cells.lookup x = some c → H c = none
  pin : ∀ p ∈ X.pn ++ pins, s.heap.get? p.1 = some p.2 ∧ H p.1 = none ∧ p.1 ≠ X.env.locals ∧ p.1 ∉ X.fs ∧ ∀ v, p.2.data ≠ .cell v
  hok : HOk X.prog X.w H s.heap
  len : σ.length = X.N.length

section
variable {X : Cx} {pins : List (Addr × Obj)} {σ : List (Option V)} {H H' : Hp} {s : Shared} {h' : Heap}

theorem Cx.Ok.nofr (ok : X.Ok) {b : Addr} {o : Obj} (e : X.base.get? b = some o) : b ∉ X.fs := fun hb => by
  have := (ok.funs.mem hb).1
  rw [e] at this; cases this
theorem Inv.bs (I : Inv X pins σ H s) : ∀ b o, X.base.get? b = some o → s.heap.get? b = some o ∧ H b = none := fun b o e =>
  ⟨I.base.keep b o (I.ok.bs b o e).1 (I.ok.bs b o e).2 (I.ok.nofr e) (I.ok.noex b o e), I.base.free b o (I.ok.bs b o e).1 (I.ok.bs b o e).2 (I.ok.noex b o e)⟩
theorem Inv.bk (I : Inv X pins σ H s) : ∀ b o, X.base.get? b = some o → s.heap.get? b = some o := fun b o e => (I.bs b o e).1
theorem Inv.mod (I : Inv X pins σ H s) : Mod X.K X.mg X.base := I.ok.mod
theorem Inv.kIn (I : Inv X pins σ H s) : X.K.In s.heap := I.ok.mod.kin.keeps I.bk
theorem Inv.nolimit (I : Inv X pins σ H s) : s.heap.NoLimit := I.ok.mod.nolimit.keeps I.bk
/-- the frame over the base: for OpenK's rules (K.In X.base is I.mod.kin) -/
theorem Inv.fr (I : Inv X pins σ H s) : ∃ m, Fr X.base X.env.locals s.heap m :=
  let ⟨m, hn, _⟩ := I.loc
  ⟨m, hn, I.bk, Nat.le_trans I.ok.bsz I.ok.above⟩
theorem Inv.lt (I : Inv X pins σ H s) : X.env.locals < s.heap.objs.size := let ⟨_, hn, _⟩ := I.loc; hn.lt
theorem Inv.sz (I : Inv X pins σ H s) : X.s₀.heap.objs.size ≤ s.heap.objs.size := Nat.le_trans I.ok.above (Nat.le_of_lt I.lt)
theorem Inv.nofs (I : Inv X pins σ H s) {a : Addr} (h : s.heap.objs.size ≤ a) : a ∉ X.fs := fun hb => by
  obtain ⟨_, o, ho, _⟩ := I.ok.funs.mem hb
  exact absurd (Nat.lt_of_lt_of_le (Heap.lt_size ho) (Nat.le_trans I.sz h)) (Nat.lt_irrefl _)
theorem Inv.cne (I : Inv X pins σ H s) : ∀ x c, X.env.cells.lookup x = some c → c ≠ X.env.locals := fun x c e z => by
  obtain ⟨v, o, ho, hd⟩ := I.cell x c e
  obtain ⟨m, ⟨o', es, ep, ho', hd', _⟩, _⟩ := I.loc
  rw [z, ho'] at ho; cases ho; rw [hd'] at hd; cases hd
theorem Inv.funs (I : Inv X pins σ H s) : s.heap.FunFrames X.base X.outer := by
  have all : ∀ (l : List Env), (∀ b ∈ frs l, b ∈ X.fs) → X.s₀.heap.FunFrames X.base l → s.heap.FunFrames X.base l := by
    intro l
    induction l with
    | nil => intro _ _; trivial
    | cons env r ih =>
      intro hs hl
      obtain ⟨hk, ⟨L, o, hf, hn, ho, hd⟩, hr⟩ := hl
      have hL : L ∈ X.fs := hs L (by unfold frs; rw [List.filterMap_cons, hf]; exact List.mem_cons_self)
      obtain ⟨sl, e⟩ := I.base.slot L o ho (I.ok.frf L hL) hL fun z => I.ok.exfs L z hL
      exact ⟨hk, ⟨L, _, hf, hn, e, hd⟩, ih (fun b hb => hs b (by unfold frs; rw [List.filterMap_cons, hf]; exact List.mem_cons_of_mem _ hb)) hr⟩
  exact all X.outer (fun _ hb => hb) I.ok.funs

/-- the frames that run, for a call -/
theorem Inv.stack (I : Inv X pins σ H s) : s.heap.FunFrames X.base X.stack := by
  rcases I.ok.stk with e | ⟨e, hf⟩
  · rw [e]; exact I.funs
  · rw [e]
    obtain ⟨m, hn, _⟩ := I.loc
    refine .cons (by rw [I.ok.kind]; decide) hf hn ?_ I.funs
    exact Heap.get?_none_of_le (Nat.le_trans I.ok.bsz I.ok.above)
theorem Inv.stkSub (I : Inv X pins σ H s) : ∀ b ∈ frs X.stack, b ∈ X.env.locals :: X.fs := fun b hb => by
  rcases I.ok.stk with e | ⟨e, hf⟩
  · rw [e] at hb; exact List.mem_cons_of_mem _ hb
  · rw [e] at hb
    unfold frs at hb
    rw [List.filterMap_cons, hf] at hb
    exact hb
theorem Inv.stkFree (I : Inv X pins σ H s) : ∀ b ∈ frs X.stack, H b = none := fun b hb => by
  rcases List.mem_cons.mp (I.stkSub b hb) with e | hb
  · rw [e]; exact I.free
  · obtain ⟨_, o, ho, _⟩ := I.ok.funs.mem hb
    exact I.base.free b o ho (I.ok.frf b hb) fun z => I.ok.exfs b z hb

/-- THE STEP: the untracked objects but the frame and the records at ch are kept (the callers' frames up to slots), the frame's map is kept, the new abstract heap is held -/
theorem Inv.step {g' : Array GenState} {t' : Nat} {d' : Drawn} {ch : List Addr} (I : Inv X pins σ H s)
    (hch : ∀ b ∈ ch, (b ∈ X.ex ∨ X.s₀.heap.objs.size ≤ b) ∧ b ≠ X.env.locals ∧ (∀ x c, X.env.cells.lookup x = some c → c ≠ b) ∧ ∀ p ∈ X.pn ++ pins, p.1 ≠ b)
    (keep : ∀ b o, b ≠ X.env.locals → b ∉ X.fs → b ∉ ch → s.heap.get? b = some o → H b = none → h'.get? b = some o)
    (slot : ∀ b o, b ≠ X.env.locals → b ∈ X.fs → b ∉ ch → s.heap.get? b = some o → H b = none → ∃ sl, h'.get? b = some { o with slots := sl }) (free : ∀ b o, b ∉ ch → s.heap.get? b = some o → H b = none → H' b = none)
    (there : ∀ b o, b ∉ ch → s.heap.get? b = some o → ∃ o', h'.get? b = some o')
    (tups : ∀ b xs, H b = some (.tup xs) → H' b = some (.tup xs)) (frzs : ∀ b o u, H b = some (.frz o u) → H' b = some (.frz o u)) (tbls : ∀ b ps, H b = some (.tbl ps) → ∃ more, H' b = some (.tbl (ps ++ more)))
    (ns : ∀ m, s.heap.Ns X.env.locals m → h'.Ns X.env.locals m) (hok : HOk X.prog X.w H' h') (hg : AllBare g') :
    Inv X pins σ H' { s with heap := h', gens := g', drawn := d', toks := t' } := by
  have neL : ∀ b o, X.s₀.heap.get? b = some o → b ≠ X.env.locals := fun b o e => Nat.ne_of_lt (Nat.lt_of_lt_of_le (Heap.lt_size e) I.ok.above)
  have neC : ∀ b o, X.s₀.heap.get? b = some o → b ∉ X.ex → b ∉ ch := fun b o e hx hb => by
    rcases (hch b hb).1 with z | z
    · exact hx z
    · exact absurd (Nat.lt_of_lt_of_le (Heap.lt_size e) z) (Nat.lt_irrefl _)
  have cellK : ∀ x c, X.env.cells.lookup x = some c → ∀ v, s.heap.IsCell c v → h'.IsCell c v := fun x c e v ⟨o, ho, hd⟩ => by
    have nch : c ∉ ch := fun z => (hch c z).2.2.1 x c e rfl
    by_cases hc : c ∈ X.fs
    · obtain ⟨sl, q⟩ := slot c o (I.cne x c e) hc nch ho (I.freeC x c e)
      exact ⟨_, q, hd⟩
    · exact ⟨o, keep c o (I.cne x c e) hc nch ho (I.freeC x c e), hd⟩
  refine ⟨I.ok, I.os, hg, ⟨fun b o e n hb hx => ?_, fun b o e n hb hx => ?_, fun b o e n hx => ?_, fun b o e hx => ?_, fun b xs e => tups b xs (I.base.tups b xs e), fun b o xs e => frzs b o xs (I.base.frzs b o xs e), fun b ps e => ?_⟩, ?_, fun x c e => ?_, ?_, fun x c e => ?_, fun p hp => ?_, hok, I.len⟩
  · exact keep b o (neL b o e) hb (neC b o e hx) (I.base.keep b o e n hb hx) (I.base.free b o e n hx)
  · obtain ⟨sl, e1⟩ := I.base.slot b o e n hb hx
    obtain ⟨sl', e2⟩ := slot b _ (neL b o e) hb (neC b o e hx) e1 (I.base.free b o e n hx)
    exact ⟨sl', e2⟩
  · obtain ⟨o', e1⟩ := I.base.there b o e hx
    exact free b o' (neC b o e hx) e1 (I.base.free b o e n hx)
  · obtain ⟨o', e1⟩ := I.base.there b o e hx
    exact there b o' (neC b o e hx) e1
  · obtain ⟨m1, e1⟩ := I.base.tbls b ps e
    obtain ⟨m2, e2⟩ := tbls b _ e1
    exact ⟨m1 ++ m2, by rw [e2, Array.append_assoc]⟩
  · obtain ⟨m, hn, hl⟩ := I.loc
    refine ⟨m, ns m hn, fun i x v e1 e2 e3 => ?_⟩
    obtain ⟨u, r, l⟩ := hl i x v e1 e2 e3
    refine ⟨u, r, ?_⟩
    rcases l with l | ⟨k, c, e, z⟩
    · exact .inl l
    · exact .inr ⟨k, c, e, cellK x c e _ z⟩
  · obtain ⟨v, z⟩ := I.cell x c e
    exact ⟨v, cellK x c e v z⟩
  · obtain ⟨m, ⟨o, _, _, ho, _⟩, _⟩ := I.loc
    exact free _ o (fun z => (hch _ z).2.1 rfl) ho I.free
  · obtain ⟨v, o, ho, hd⟩ := I.cell x c e
    exact free c o (fun z => (hch c z).2.2.1 x c e rfl) ho (I.freeC x c e)
  · obtain ⟨e, n, ne, nf, d⟩ := I.pin p hp
    have nch : p.1 ∉ ch := fun z => (hch p.1 z).2.2.2 p hp rfl
    exact ⟨keep p.1 p.2 ne nf nch e n, free p.1 p.2 nch e n, ne, nf, d⟩
/-- .. where the frame's own object is kept too -/
theorem Inv.un {t' : Nat} (I : Inv X pins σ H s) (u : Un X.fs [] H H' s.heap h') (hok : HOk X.prog X.w H' h') : Inv X pins σ H' { s with heap := h', toks := t' } := by
  obtain ⟨m, ⟨o, es, ep, ho, r⟩, _⟩ := id I.loc
  obtain ⟨sl, hL⟩ := u.any ho I.free (by simp)
  exact I.step (g' := s.gens) (d' := s.drawn) (ch := []) (fun _ z => nomatch z) (fun b o _ hb _ e n => u.keep b o e n hb (by simp)) (fun b o _ hb _ e n => u.slot b o e n hb (by simp)) (fun b o _ e n => u.free b o e n (by simp)) (fun b o _ e => u.there b o e (by simp)) u.tups u.frzs u.tbls (fun m' hm => by
    obtain ⟨o', es', ep', ho', r'⟩ := hm
    rw [ho] at ho'; cases ho'
    exact ⟨_, es', ep', hL, r'⟩) hok I.bare
/-- behind a call (or a comprehension's block): the slots of this frame may have changed too, the records at ch may have turned -/
theorem Inv.call {g' : Array GenState} {t' : Nat} {d' : Drawn} {ch : List Addr} (I : Inv X pins σ H s) (u : Un (frs X.stack) ch H H' s.heap h') (hok : HOk X.prog X.w H' h') (hg : AllBare g')
    (hch : ∀ b ∈ ch, (b ∈ X.ex ∨ X.s₀.heap.objs.size ≤ b) ∧ b ≠ X.env.locals ∧ (∀ x c, X.env.cells.lookup x = some c → c ≠ b) ∧ ∀ p ∈ X.pn ++ pins, p.1 ≠ b) :
    Inv X pins σ H' { s with heap := h', gens := g', drawn := d', toks := t' } := by
  obtain ⟨m, ⟨o, es, ep, ho, r⟩, _⟩ := id I.loc
  obtain ⟨sl, hL⟩ := u.any ho I.free fun z => (hch _ z).2.1 rfl
  exact I.step (ch := ch) hch (fun b o hL hb hc e n => u.keep b o e n (fun z => (List.mem_cons.mp (I.stkSub b z)).elim hL hb) hc) (fun b o _ _ hc e n => u.any e n hc) (fun b o hc e n => u.free b o e n hc) (fun b o hc e => u.there b o e hc) u.tups u.frzs u.tbls (fun m' hm => by
    obtain ⟨o', es', ep', ho', r'⟩ := hm
    rw [ho] at ho'; cases ho'
    exact ⟨_, es', ep', hL, r'⟩) hok hg
/-- an untracked record of ours (an iterator) has turned -/
theorem Inv.turned {t' : Nat} {it : Addr} (I : Inv X pins σ H s) (k : ∀ b o, b ≠ it → s.heap.get? b = some o → h'.get? b = some o) (hn : H it = none) (hL : it ≠ X.env.locals)
    (h1 : it ∈ X.ex ∨ X.s₀.heap.objs.size ≤ it) (h2 : ∀ x c, X.env.cells.lookup x = some c → c ≠ it) (h3 : ∀ p ∈ X.pn ++ pins, p.1 ≠ it) : Inv X pins σ H { s with heap := h', toks := t' } := by
  have nit : ∀ b u, H b = some u → b ≠ it := fun b u e z => by rw [z, hn] at e; cases e
  refine I.step (g' := s.gens) (d' := s.drawn) (ch := [it]) (fun b hb => ?_) (fun b o _ _ hc e _ => k b o (fun z => hc (by simp [z])) e) (fun b o _ _ hc e _ => ⟨o.slots, k b o (fun z => hc (by simp [z])) e⟩) (fun _ _ _ _ n => n)
    (fun b o hc e => ⟨o, k b o (fun z => hc (by simp [z])) e⟩) (fun _ _ e => e) (fun _ _ _ e => e) (fun b ps e => ⟨#[], by rw [e]; simp⟩) (fun m hm => ?_) (fun b u e => ?_) I.bare
  · have e : b = it := by simpa using hb
    subst e
    exact ⟨h1, hL, h2, h3⟩
  · obtain ⟨o, es, ep, ho, r⟩ := hm
    exact ⟨o, es, ep, k _ o (Ne.symm hL) ho, r⟩
  · refine (I.hok b u e).stay (fun c v hc q => k c v ?_ q) (fun _ q => q) fun _ _ q => q
    rcases hc with z | z
    · rw [z]; exact nit b u e
    · exact nit c _ z
theorem Inv.tok (I : Inv X pins σ H s) (t : Nat) : Inv X pins σ H { s with toks := t } := I.un (h' := s.heap) (t' := t) Un.refl I.hok
/-- all objects kept -/
theorem Inv.kept {t' : Nat} (I : Inv X pins σ H s) (k : ∀ b u, s.heap.get? b = some u → h'.get? b = some u) : Inv X pins σ H { s with heap := h', toks := t' } := I.un (Un.kept k) (I.hok.kept k)
/-- a new object laid and tracked -/
theorem Inv.laid {a : Addr} {o : HO} {t' : Nat} (I : Inv X pins σ H s) (k : ∀ b u, s.heap.get? b = some u → h'.get? b = some u) (hp : s.heap.objs.size ≤ a) (new : ObjOk X.prog X.w (upd H a o) h' a o) :
    Inv X pins σ (upd H a o) { s with heap := h', toks := t' } := I.un (Un.laid k hp (I.hok.fresh hp)) (I.hok.laid k hp new)
/-- an object written -/
theorem Inv.write {x e : Addr} {o : HO} {t' : Nat} (I : Inv X pins σ H s) (mu : Mut (H x)) (he : e = x ∨ H e = some (.own x)) (k : ∀ b u, b ≠ e → s.heap.get? b = some u → h'.get? b = some u) (heo : ∃ u, h'.get? e = some u)
    (new : ObjOk X.prog X.w (upd H x o) h' x o) : Inv X pins σ (upd H x o) { s with heap := h', toks := t' } := I.un (Un.write mu he k heo) (I.hok.write mu he k heo new)
theorem Inv.pins_of {pins' : List (Addr × Obj)} (I : Inv X pins σ H s) (h : ∀ p ∈ pins', s.heap.get? p.1 = some p.2 ∧ H p.1 = none ∧ p.1 ≠ X.env.locals ∧ p.1 ∉ X.fs ∧ ∀ v, p.2.data ≠ .cell v) : Inv X pins' σ H s :=
  ⟨I.ok, I.os, I.bare, I.base, I.loc, I.cell, I.free, I.freeC, fun p hp => (List.mem_append.mp hp).elim (fun z => I.pin p (List.mem_append_left _ z)) (h p), I.hok, I.len⟩

theorem nodup_ix {N : List Str} (hN : N.Nodup) {i j : Nat} {x : Str} (a : N[i]? = some x) (b : N[j]? = some x) : i = j := by
  obtain ⟨h1, e1⟩ := List.getElem?_eq_some_iff.mp a
  obtain ⟨h2, e2⟩ := List.getElem?_eq_some_iff.mp b
  exact (List.getElem_inj hN).mp (e1.trans e2.symm)

/-- a name is stored; what changed -/
theorem store_ok2 {M : Model} {A : Around} {E : Value → Shared → Prop} {i : Nat} {x : Str} {v : V} {u : Value} {Q : Unit → Shared → Prop} (I : Inv X pins σ H s) (hN : X.N.Nodup) (hi : X.N[i]? = some x) (hx : Loc X.env.scope x) (r : RelV v u)
    (h : ∀ s', Inv X pins (σ.set i (some v)) H s' → (∃ a, Heap.SameBut a s.heap s'.heap ∧ (a = X.env.locals ∨ X.env.cells.lookup x = some a)) → Q () s') (hf : X.fn x = true ∨ X.env.scope.names.lookup x = some .local := by first | exact .inl rfl | exact .inr rfl | assumption) : wpAny M A (storeName X.env x u) Q E s := by
  obtain ⟨m, hn, hl⟩ := id I.loc
  have hcls : (X.env.scope.kind == .class || (X.env.scope.kind == .module && X.env.locals != X.env.globals)) = false := by rw [I.ok.kind]; rfl
  have hiσ : i < σ.length := by rw [I.len]; exact (List.getElem?_eq_some_iff.mp hi).1
  have cne := I.cne
  have tracked : ∀ {a : Addr} {h' : Heap}, (∃ o, s.heap.get? a = some o ∧ H a = none) → Heap.SameBut a s.heap h' → HOk X.prog X.w H h' := fun {a h'} ha hs b ob e => by
    obtain ⟨_, _, hfree⟩ := ha
    refine (I.hok b ob e).stay (fun c w' hc q => (hs.2 c ?_).trans q) (fun _ q => q) fun _ _ q => q
    rintro rfl
    rcases hc with rfl | hc
    · rw [hfree] at e; cases e
    · rw [hfree] at hc; cases hc
  rcases hx with hk | hk
  · refine wpAny_storeName_local hk hn (fun h' hn' hs => ?_) hcls
    obtain ⟨oL, _, _, hoL, _⟩ := id hn
    refine h _ ⟨I.ok, I.os, I.bare, ⟨fun b o e n hb hx => ?_, fun b o e n hb hx => ?_, I.base.free, fun b o e hx => ?_, I.base.tups, I.base.frzs, I.base.tbls⟩, ⟨_, hn', fun j y v' e1 e2 e3 => ?_⟩, fun y c e => ?_, I.free, I.freeC, fun p hp => ?_, tracked ⟨oL, hoL, I.free⟩ hs, by simpa using I.len⟩ ⟨_, hs, .inl rfl⟩
    · exact (hs.2 b (Nat.ne_of_lt (Nat.lt_of_lt_of_le (Heap.lt_size e) I.ok.above))).trans (I.base.keep b o e n hb hx)
    · obtain ⟨sl, e1⟩ := I.base.slot b o e n hb hx
      exact ⟨sl, (hs.2 b (Nat.ne_of_lt (Nat.lt_of_lt_of_le (Heap.lt_size e) I.ok.above))).trans e1⟩
    · obtain ⟨o', e1⟩ := I.base.there b o e hx
      exact ⟨o', (hs.2 b (Nat.ne_of_lt (Nat.lt_of_lt_of_le (Heap.lt_size e) I.ok.above))).trans e1⟩
    · by_cases hj : j = i
      · subst hj
        rw [hi] at e1; cases e1
        rw [List.getElem?_set_self hiσ] at e2
        cases e2
        exact ⟨u, r, .inl ⟨hk, by simp⟩⟩
      · rw [List.getElem?_set_ne (Ne.symm hj)] at e2
        obtain ⟨u', r', q⟩ := hl j y v' e1 e2 e3
        refine ⟨u', r', ?_⟩
        rcases q with ⟨k, e⟩ | ⟨k, c, e, z⟩
        · refine .inl ⟨k, ?_⟩
          have : y ≠ x := fun e => hj (nodup_ix hN e1 (e ▸ hi))
          simp [this, e]
        · exact .inr ⟨k, c, e, z.sameBut hs (cne y c e)⟩
    · obtain ⟨w', z⟩ := I.cell y c e
      exact ⟨w', z.sameBut hs (cne y c e)⟩
    · obtain ⟨e, n, ne, nf, d⟩ := I.pin p hp
      exact ⟨(hs.2 p.1 ne).trans e, n, ne, nf, d⟩
  · have hfn : X.fn x = true := by
      rcases hf with z | z
      · exact z
      · rw [z] at hk; cases hk
    obtain ⟨c, hc⟩ := I.ok.has x (.inl hk)
    obtain ⟨w', z⟩ := I.cell x c hc
    refine wpAny_storeName_cell I.ok.kind hk hc z (fun h' hc' hs => ?_)
    obtain ⟨oc, hoc, hocd⟩ := id z
    refine h { s with heap := h' } ⟨I.ok, I.os, I.bare, ⟨fun b o e n hb hx => ?_, fun b o e n hb hx => ?_, I.base.free, fun b o e hx => ?_, I.base.tups, I.base.frzs, I.base.tbls⟩, ⟨m, hn.sameBut hs (Ne.symm (cne x c hc)), fun j y v' e1 e2 e3 => ?_⟩, fun y c' e => ?_, I.free, I.freeC, fun p hp => ?_, tracked ⟨oc, hoc, I.freeC x c hc⟩ hs, by simpa using I.len⟩ ⟨c, hs, .inr hc⟩
    · exact (hs.2 b (Nat.ne_of_lt (Nat.lt_of_lt_of_le (Heap.lt_size e) (I.ok.cab x c hfn hc)))).trans (I.base.keep b o e n hb hx)
    · obtain ⟨sl, e1⟩ := I.base.slot b o e n hb hx
      exact ⟨sl, (hs.2 b (Nat.ne_of_lt (Nat.lt_of_lt_of_le (Heap.lt_size e) (I.ok.cab x c hfn hc)))).trans e1⟩
    · obtain ⟨o', e1⟩ := I.base.there b o e hx
      exact ⟨o', (hs.2 b (Nat.ne_of_lt (Nat.lt_of_lt_of_le (Heap.lt_size e) (I.ok.cab x c hfn hc)))).trans e1⟩
    · by_cases hj : j = i
      · subst hj
        rw [hi] at e1; cases e1
        rw [List.getElem?_set_self hiσ] at e2
        cases e2
        exact ⟨u, r, .inr ⟨.inl hk, c, hc, hc'⟩⟩
      · rw [List.getElem?_set_ne (Ne.symm hj)] at e2
        obtain ⟨u', r', q⟩ := hl j y v' e1 e2 e3
        refine ⟨u', r', ?_⟩
        rcases q with q | ⟨k, c', e, z'⟩
        · exact .inl q
        · refine .inr ⟨k, c', e, z'.sameBut hs ?_⟩
          rintro rfl
          exact hj (nodup_ix hN e1 (I.ok.inj _ _ _ e hc ▸ hi))
    · by_cases hcc : c' = c
      · subst hcc; exact ⟨_, hc'⟩
      · obtain ⟨w2, z2⟩ := I.cell y c' e
        exact ⟨w2, z2.sameBut hs hcc⟩
    · obtain ⟨e, n, ne, nf, d⟩ := I.pin p hp
      refine ⟨(hs.2 p.1 ?_).trans e, n, ne, nf, d⟩
      intro q
      rw [q, hoc] at e
      have q' : oc = p.2 := Option.some.inj e
      exact d w' (by rw [← q']; exact hocd)
theorem store_ok {M : Model} {A : Around} {E : Value → Shared → Prop} {i : Nat} {x : Str} {v : V} {u : Value} {Q : Unit → Shared → Prop} (I : Inv X pins σ H s) (hN : X.N.Nodup) (hi : X.N[i]? = some x) (hx : Loc X.env.scope x) (r : RelV v u)
    (h : ∀ s', Inv X pins (σ.set i (some v)) H s' → Q () s') (hf : X.fn x = true ∨ X.env.scope.names.lookup x = some .local := by first | exact .inl rfl | exact .inr rfl | assumption) : wpAny M A (storeName X.env x u) Q E s :=
  store_ok2 I hN hi hx r (fun s' I' _ => h s' I') hf
/-- behind a call or a block, the state as it is -/
theorem Inv.call' {s' : Shared} {ch : List Addr} (I : Inv X pins σ H s) (ho : s'.os = s.os) (u : Un (frs X.stack) ch H H' s.heap s'.heap) (hok : HOk X.prog X.w H' s'.heap) (hg : AllBare s'.gens)
    (hch : ∀ b ∈ ch, (b ∈ X.ex ∨ X.s₀.heap.objs.size ≤ b) ∧ b ≠ X.env.locals ∧ (∀ x c, X.env.cells.lookup x = some c → c ≠ b) ∧ ∀ p ∈ X.pn ++ pins, p.1 ≠ b) : Inv X pins σ H' s' := by
  obtain ⟨h', g', d', t', o'⟩ := s'
  have e : o' = s.os := ho
  subst e
  exact I.call (g' := g') (t' := t') (d' := d') u hok hg hch
end

/-! ### the judgements -/
/-- an exception: its class, its own dict's address (where it has one), the abstract heap behind it -/
abbrev XK := Value → Option Addr → Hp → Prop
abbrev St := List (Option V)
abbrev VK := V → Hp → Prop
/-- an expression's reading; a test's; an argument list's -/
abbrev TE := St → Hp → VK → Prop
abbrev TT := St → Hp → (Bool → Hp → Prop) → Prop
abbrev TA := St → Hp → (List V → Hp → Prop) → Prop
/-- what is wanted behind a statement -/
structure Ends where
  nx : St → Hp → Prop
  rt : VK
  bk : St → Hp → Prop := fun _ _ => False
  ct : St → Hp → Prop := fun _ _ => False
abbrev TS := Ends → St → Hp → Prop

def EP (X : Cx) (pins : List (Addr × Obj)) (σ : St) (Q : VK) (u : Value) (s' : Shared) : Prop := ∃ v H', Inv X pins σ H' s' ∧ RelV v u ∧ Q v H'
def TP (X : Cx) (pins : List (Addr × Obj)) (σ : St) (Q : Bool → Hp → Prop) (b : Bool) (s' : Shared) : Prop := ∃ H', Inv X pins σ H' s' ∧ Q b H'
def AP (X : Cx) (pins : List (Addr × Obj)) (σ : St) (Q : List V → Hp → Prop) (us : List Value) (s' : Shared) : Prop := ∃ vs H', Inv X pins σ H' s' ∧ Vals vs us ∧ Q vs H'
def SP (X : Cx) (pins : List (Addr × Obj)) (D : Ends) (f : Flow) (s' : Shared) : Prop :=
  match f with
  | .next => ∃ σ' H', Inv X pins σ' H' s' ∧ D.nx σ' H'
  | .brk => ∃ σ' H', Inv X pins σ' H' s' ∧ D.bk σ' H'
  | .cont => ∃ σ' H', Inv X pins σ' H' s' ∧ D.ct σ' H'
  | .ret u => ∃ v σ' H', Inv X pins σ' H' s' ∧ RelV v u ∧ D.rt v H'

def PE (X : Cx) (e : Expr) (t : TE) : Prop :=
  ∀ (pins : List (Addr × Obj)) (s : Shared) (σ : St) (H : Hp) (Q : VK), Inv X pins σ H s → t σ H Q → wpAny (model X.prog X.w) X.A (eval e X.env) (EP X pins σ Q) X.xe s
def PT (X : Cx) (e : Expr) (t : TT) : Prop :=
  ∀ (pins : List (Addr × Obj)) (s : Shared) (σ : St) (H : Hp) (Q : Bool → Hp → Prop), Inv X pins σ H s → t σ H Q → wpAny (model X.prog X.w) X.A (isTrue e X.env (eval e X.env)) (TP X pins σ Q) X.xe s
/-- a test whatever its 'whole' is (and, or) -/
def PW (X : Cx) (e : Expr) (t : TT) : Prop :=
  ∀ (whole : Sem Value) (pins : List (Addr × Obj)) (s : Shared) (σ : St) (H : Hp) (Q : Bool → Hp → Prop), Inv X pins σ H s → t σ H Q → wpAny (model X.prog X.w) X.A (isTrue e X.env whole) (TP X pins σ Q) X.xe s
theorem PW.pt {X : Cx} {e : Expr} {t : TT} (h : PW X e t) : PT X e t := h _
/-- an argument list (no star), from the left -/
def PA (X : Cx) (es : List Expr) (t : TA) : Prop :=
  ∀ (pos : Pos) (pins : List (Addr × Obj)) (s : Shared) (σ : St) (H : Hp) (Q : List V → Hp → Prop), Inv X pins σ H s → t σ H Q → wpAny (model X.prog X.w) X.A (spliced (backTo pos (starEach es X.env))) (AP X pins σ Q) X.xe s
def PS (X : Cx) (st : Stmt) (t : TS) : Prop :=
  ∀ (pins : List (Addr × Obj)) (s : Shared) (σ : St) (H : Hp) (D : Ends), Inv X pins σ H s → t D σ H → wpAny (model X.prog X.w) X.A (exec st X.env) (SP X pins D) X.xe s
def PSs (X : Cx) (st : List Stmt) (t : TS) : Prop :=
  ∀ (pins : List (Addr × Obj)) (s : Shared) (σ : St) (H : Hp) (D : Ends), Inv X pins σ H s → t D σ H → wpAny (model X.prog X.w) X.A (execs st X.env) (SP X pins D) X.xe s
/-- weaken the end -/
theorem thn {α : Type} {t : Sem α} {Q Q' : α → Shared → Prop} {M : Model} {A : Around} {E : Value → Shared → Prop} {s : Shared} (h : wpAny M A t Q E s) (hQ : ∀ a s, Q a s → Q' a s) : wpAny M A t Q' E s := wpAny_mono h hQ fun _ _ x => x
end L2

namespace L2
open PySem PySem.Spec PyProof.Rows
section
variable {X : Cx}

/-! ### names and constants -/
def tVar (i : Nat) : TE := fun σ H Q => ∃ v, σ[i]? = some (some v) ∧ Q v H
def tC (v : V) : TE := fun _ H Q => Q v H
theorem pe_var {i : Nat} {x : Str} {pos : Pos} (hN : X.N[i]? = some x) (hv : Vis X.env.scope x) (hd : (x == ("__debug__" : Str)) = false := by decide) (hcd : (x == ("__classdict__" : Str)) = false := by decide) : PE X (.Name x pos) (tVar i) := by
  intro pins s σ H Q I h
  obtain ⟨v, e, h⟩ := h
  obtain ⟨m, hn, hl⟩ := I.loc
  obtain ⟨u, r, l⟩ := hl i x v hN e hv
  have fin : EP X pins σ Q u s := ⟨v, H, I, r, h⟩
  rcases l with ⟨hk, hm⟩ | ⟨hk, c, hc, hcell⟩
  · exact wpAny_Name (wpAny_loadName_local I.ok.kind hk hn hm fin) hd
  · rcases hk with hk | hk
    · exact wpAny_Name (wpAny_loadName_cell I.ok.kind hk hc hcell fin) hd
    · exact wpAny_Name (wpAny_loadName_free I.ok.kind hk hc hcell fin hcd) hd
theorem pe_int {i j pos} : PE X (.Constant (.int i) j pos) (tC (.int i)) := fun _ _ _ H _ I h => wpAny_Constant_int ⟨.int i, H, I.tok _, ⟨_, rfl⟩, h⟩
theorem pe_bl {b j pos} : PE X (.Constant (.bool b) j pos) (tC (.bl b)) := fun _ _ _ H _ I h => Constant_bool ⟨.bl b, H, I, rfl, h⟩
theorem pe_non {j pos} : PE X (.Constant .none j pos) (tC .non) := fun _ _ _ H _ I h => Constant_none ⟨.non, H, I, rfl, h⟩
theorem pe_str {x j pos} : PE X (.Constant (.str x) j pos) (tC (.str x)) := fun _ _ _ H _ I h => Calls.Constant_str ⟨.str x, H, I.tok _, ⟨_, rfl⟩, h⟩

/-- a global name of the def -/
def Gl (X : Cx) (x : Str) : Prop := X.env.kindOf x = some .globalImplicit
theorem ld_glob {E : Value → Shared → Prop} {pins : List (Addr × Obj)} {s : Shared} {σ : St} {H : Hp} {x : Str} {u : Value} {pos : Pos} {Q : Value → Shared → Prop} (I : Inv X pins σ H s) (hg : Gl X x) (hm : X.mg x = some u) (h : Q u s)
    (hd : (x == ("__debug__" : Str)) = false := by decide) : wpAny (model X.prog X.w) X.A (eval (.Name x pos) X.env) Q E s :=
  Calls.Name_function_global I.ok.kind hg (Calls.loadGlobal_global (by rw [I.ok.glob]; exact I.mod.glob.keeps I.bk) hm h) hd
theorem ld_blt {E : Value → Shared → Prop} {pins : List (Addr × Obj)} {s : Shared} {σ : St} {H : Hp} {x : Str} {u : Value} {pos : Pos} {Q : Value → Shared → Prop} (I : Inv X pins σ H s) (hg : Gl X x) (hm : X.mg x = none) (hv : bootBuiltins x = some u) (h : Q u s)
    (hn : x ≠ "__name__" := by decide) (hd : (x == ("__debug__" : Str)) = false := by decide) : wpAny (model X.prog X.w) X.A (eval (.Name x pos) X.env) Q E s := by
  obtain ⟨mb, h1, h2⟩ := I.mod.blt
  exact Calls.Name_function_global I.ok.kind hg (Calls.loadGlobal_builtin (by rw [I.ok.glob]; exact I.mod.glob.keeps I.bk) hm (by rw [I.ok.blt]; exact h1.keeps I.bk) ((h2 x hn).trans hv) h) hd
/-- a module's constant, a class, a function, as a value -/
theorem pe_glob {x : Str} {v : V} {u : Value} {pos : Pos} (hg : Gl X x) (hm : X.mg x = some u) (r : RelV v u) (hd : (x == ("__debug__" : Str)) = false := by decide) : PE X (.Name x pos) (tC v) :=
  fun _ _ _ H _ I h => ld_glob I hg hm ⟨v, H, I, r, h⟩ hd
variable {a b : Expr} {ta tb : TE} {pos : Pos}
/-- a comparison as a value, as a test -/
def tB (t : TE) : TT := fun σ H Q => t σ H fun x H1 => ∃ c, x = .bl c ∧ Q c H1
/-- an expression whose value is a bool, as a test -/
theorem pt_val {e : Expr} {t : TE} (h : PE X e t) (he : ∀ whole, isTrue e X.env whole = (do let v ← whole; standAt e.pos; holding [v] (truthy v)) := by intro _; rfl) : PT X e (tB t) := by
  intro pins s σ H Q I hw
  refine isTrue_plain (thn (h pins s σ H _ I hw) fun v s1 ⟨x, H1, I1, r1, q1⟩ => ?_) (he _)
  obtain ⟨d, rfl, q⟩ := q1
  cases r1
  exact wpAny_truthy_bool ⟨H1, I1, q⟩

/-! ### and, or, not -/
variable {tA tB' : TT} {rest : List Expr}
def tAnd (t u : TT) : TT := fun σ H Q => t σ H fun c H1 => if c = true then u σ H1 Q else Q false H1
def tOr (t u : TT) : TT := fun σ H Q => t σ H fun c H1 => if c = true then Q true H1 else u σ H1 Q
def tNot (t : TT) : TT := fun σ H Q => t σ H fun c H1 => Q (!c) H1
theorem pw_and1 (ha : PT X a tA) : PW X (.BoolOp .And [a] pos) tA := by
  intro wh pins s σ H Q I h
  refine isTrue_and (thn (ha pins s σ H Q I h) fun c s1 e => ?_)
  cases c with
  | true => exact isTrue_and_nil e
  | false => exact e
theorem pw_or1 (ha : PT X a tA) : PW X (.BoolOp .Or [a] pos) tA := by
  intro wh pins s σ H Q I h
  refine isTrue_or (thn (ha pins s σ H Q I h) fun c s1 e => ?_)
  cases c with
  | false => exact isTrue_or_nil e
  | true => exact e
theorem pw_and (ha : PT X a tA) (hb : PW X (.BoolOp .And (b :: rest) pos) tB') : PW X (.BoolOp .And (a :: b :: rest) pos) (tAnd tA tB') := by
  intro wh pins s σ H Q I h
  refine isTrue_and (thn (ha pins s σ H _ I h) fun c s1 ⟨H1, I1, q1⟩ => ?_)
  cases c with
  | true => exact hb wh pins s1 σ H1 Q I1 q1
  | false => exact ⟨H1, I1, q1⟩
theorem pw_or (ha : PT X a tA) (hb : PW X (.BoolOp .Or (b :: rest) pos) tB') : PW X (.BoolOp .Or (a :: b :: rest) pos) (tOr tA tB') := by
  intro wh pins s σ H Q I h
  refine isTrue_or (thn (ha pins s σ H _ I h) fun c s1 ⟨H1, I1, q1⟩ => ?_)
  cases c with
  | true => exact ⟨H1, I1, q1⟩
  | false => exact hb wh pins s1 σ H1 Q I1 q1
theorem pt_not (ha : PT X a tA) : PT X (.UnaryOp .Not a pos) (tNot tA) := by
  intro pins s σ H Q I h
  exact isTrue_not (ha pins s σ H (fun c H1 => Q (!c) H1) I h)
/-- .. as values (bools) -/
def tAndV (ta tb : TE) : TE := fun σ H Q => ta σ H fun x H1 => ∃ c, x = .bl c ∧ if c = true then tb σ H1 Q else Q (.bl false) H1
def tOrV (ta tb : TE) : TE := fun σ H Q => ta σ H fun x H1 => ∃ c, x = .bl c ∧ if c = true then Q (.bl true) H1 else tb σ H1 Q
theorem pe_one {op} {t : TE} (h : PE X a t) : PE X (.BoolOp op [a] pos) t := fun pins s σ H Q I hw => BoolOp_one (h pins s σ H Q I hw)
theorem pe_and (ha : PE X a ta) (hb : PE X (.BoolOp .And (b :: rest) pos) tb) : PE X (.BoolOp .And (a :: b :: rest) pos) (tAndV ta tb) := by
  intro pins s σ H Q I h
  refine BoolOp_and (thn (ha pins s σ H _ I h) fun v s1 ⟨x, H1, I1, r1, q1⟩ => ?_)
  obtain ⟨c, rfl, q1⟩ := q1
  cases r1
  refine wpAny_truthy_bool ?_
  cases c with
  | true => exact hb pins s1 σ H1 Q I1 q1
  | false => exact ⟨.bl false, H1, I1, rfl, q1⟩
theorem pe_or (ha : PE X a ta) (hb : PE X (.BoolOp .Or (b :: rest) pos) tb) : PE X (.BoolOp .Or (a :: b :: rest) pos) (tOrV ta tb) := by
  intro pins s σ H Q I h
  refine BoolOp_or (thn (ha pins s σ H _ I h) fun v s1 ⟨x, H1, I1, r1, q1⟩ => ?_)
  obtain ⟨c, rfl, q1⟩ := q1
  cases r1
  refine wpAny_truthy_bool ?_
  cases c with
  | false => exact hb pins s1 σ H1 Q I1 q1
  | true => exact ⟨.bl true, H1, I1, rfl, q1⟩
/-- a if t else b -/
def tIf (t : TT) (ta tb : TE) : TE := fun σ H Q => t σ H fun c H1 => if c = true then ta σ H1 Q else tb σ H1 Q
theorem pe_ifExp {c : Expr} (hc : PT X c tA) (ha : PE X a ta) (hb : PE X b tb) : PE X (.IfExp c a b pos) (tIf tA ta tb) := by
  intro pins s σ H Q I h
  refine wpAny_IfExp (thn (hc pins s σ H _ I h) fun d s1 ⟨H1, I1, q1⟩ => ?_)
  cases d with
  | true => exact ha pins s1 σ H1 Q I1 q1
  | false => exact hb pins s1 σ H1 Q I1 q1
end
end L2

namespace L2
open PySem PySem.Spec PyProof.Rows

/-! ### a list, a tuple that is read: tracked, frozen, or an object of the module -/
def SqL (K : PySem.W.Frag) (H : Hp) (a : Addr) (xs : List V) : Prop :=
  Rd H a (.lst xs) ∨
    ∃ (o : Obj) (its : Array Value) (n : Nat), K.lookup a = some o ∧ o.cls = .type "list" ∧ o.dict = none ∧ o.data = .seq its n ∧ its.size ≤ sizeLine ∧ Vals xs its.toList
def SqT (K : PySem.W.Frag) (H : Hp) (a : Addr) (xs : List V) : Prop :=
  Rd H a (.tup xs) ∨
    ∃ (o : Obj) (its : Array Value) (n : Nat), K.lookup a = some o ∧ o.cls = .type "tuple" ∧ o.data = .seq its n ∧ its.size ≤ sizeLine ∧ Vals xs its.toList
def absV : Value → Option V
  | .none => some .non
  | .bool b => some (.bl b)
  | .int i _ => some (.int i)
  | .str x _ => some (.str x)
  | .bytes b _ => some (.byt b)
  | .float b _ => some (.flt b)
  | .ref a => some (.ref a)
  | .type n => some (.ty n)
  | _ => none
theorem RelV.abs {x : V} {u : Value} (r : RelV x u) : absV u = some x := by
  cases x with
  | non => cases r; rfl
  | bl _ => cases r; rfl
  | int _ => obtain ⟨t, rfl⟩ := r; rfl
  | str _ => obtain ⟨t, rfl⟩ := r; rfl
  | byt _ => obtain ⟨t, rfl⟩ := r; rfl
  | flt _ => obtain ⟨t, rfl⟩ := r; rfl
  | ref _ => cases r; rfl
  | ty _ => cases r; rfl
theorem RelV.inj {x y : V} {u : Value} (r : RelV x u) (q : RelV y u) : x = y := Option.some.inj (r.abs.symm.trans q.abs)
theorem Vals.inj : ∀ {xs ys : List V} {us : List Value}, Vals xs us → Vals ys us → xs = ys
  | _, _, _, .nil, .nil => rfl
  | _, _, _, .cons r t, .cons r' t' => by rw [r.inj r', Vals.inj t t']
section
variable {X : Cx} {pins : List (Addr × Obj)} {σ : St} {H : Hp} {s : Shared} {a : Addr} {xs ys : List V}
theorem SqL.of {K : PySem.W.Frag} (h : H a = some (.lst xs)) : SqL K H a xs := .inl (.inl h)
theorem SqT.of {K : PySem.W.Frag} (h : H a = some (.tup xs)) : SqT K H a xs := .inl (.inl h)
theorem Inv.list (I : Inv X pins σ H s) (h : SqL X.K H a xs) : ∃ its : List Value, Vals xs its ∧ PlainL s.heap a its.toArray ∧ xs.length ≤ sizeLine := by
  rcases h with h | ⟨o, its, n, hk, hc, hd, hs, hz, r⟩
  · obtain ⟨z, its, n, r, e⟩ := h.ok I.hok
    exact ⟨its, r, ⟨_, n, e, rfl, rfl, rfl⟩, z⟩
  · refine ⟨its.toList, r, ⟨o, n, I.kIn a o hk, hc, hd, by simpa using hs⟩, ?_⟩
    have e := r.length
    simp only [Array.length_toList] at e
    omega
theorem Inv.tuple (I : Inv X pins σ H s) (h : SqT X.K H a xs) : ∃ its : List Value, Vals xs its ∧ IsTup s.heap a its.toArray ∧ xs.length ≤ sizeLine := by
  rcases h with h | ⟨o, its, n, hk, hc, hs, hz, r⟩
  · obtain ⟨z, its, r, p⟩ := h.ok I.hok
    exact ⟨its, r, p, z⟩
  · refine ⟨its.toList, r, ⟨o, I.kIn a o hk, hc, n, by simpa using hs⟩, ?_⟩
    have e := r.length
    simp only [Array.length_toList] at e
    omega
theorem Inv.list_inj (I : Inv X pins σ H s) (h : SqL X.K H a xs) (h' : SqL X.K H a ys) : xs = ys := by
  obtain ⟨its, r, ⟨o, n, e, _, _, d⟩, _⟩ := I.list h
  obtain ⟨its', r', ⟨o', n', e', _, _, d'⟩, _⟩ := I.list h'
  rw [e] at e'; cases e'
  rw [d] at d'
  injection d' with d1 _
  have : its = its' := by simpa using congrArg Array.toList d1
  subst this
  exact r.inj r'
theorem Inv.tuple_inj (I : Inv X pins σ H s) (h : SqT X.K H a xs) (h' : SqT X.K H a ys) : xs = ys := by
  obtain ⟨its, r, ⟨o, e, _, n, d⟩, _⟩ := I.tuple h
  obtain ⟨its', r', ⟨o', e', _, n', d'⟩, _⟩ := I.tuple h'
  rw [e] at e'; cases e'
  rw [d] at d'
  injection d' with d1 _
  have : its = its' := by simpa using congrArg Array.toList d1
  subst this
  exact r.inj r'
end

/-! ### another wish about exceptions -/
abbrev Cx.wish (X : Cx) (E : Value → Shared → Prop) : Cx := { X with xe := E }
/-- no exception leaves -/
abbrev Cx.nox (X : Cx) : Cx := X.wish fun _ _ => False
theorem Cx.Ok.wish {X : Cx} (ok : X.Ok) (E : Value → Shared → Prop) : (X.wish E).Ok :=
  ⟨ok.mod, ok.kind, ok.glob, ok.blt, ok.above, ok.inj, ok.has, ok.cab, ok.hd, ok.frames, ok.stk, ok.exf, ok.bs, ok.bsz, ok.noex, ok.exfs, ok.funs, ok.frf⟩
theorem Cx.Ok.unwish {X : Cx} {E : Value → Shared → Prop} (ok : (X.wish E).Ok) : X.Ok :=
  ⟨ok.mod, ok.kind, ok.glob, ok.blt, ok.above, ok.inj, ok.has, ok.cab, ok.hd, ok.frames, ok.stk, ok.exf, ok.bs, ok.bsz, ok.noex, ok.exfs, ok.funs, ok.frf⟩
section
variable {X : Cx} {pins : List (Addr × Obj)} {σ : St} {H : Hp} {s : Shared} {E : Value → Shared → Prop}
theorem Inv.wish (I : Inv X pins σ H s) (E : Value → Shared → Prop) : Inv (X.wish E) pins σ H s := ⟨I.ok.wish E, I.os, I.bare, I.base, I.loc, I.cell, I.free, I.freeC, I.pin, I.hok, I.len⟩
theorem Inv.unwish (I : Inv (X.wish E) pins σ H s) : Inv X pins σ H s := ⟨I.ok.unwish, I.os, I.bare, I.base, I.loc, I.cell, I.free, I.freeC, I.pin, I.hok, I.len⟩
theorem SP.unwish {D : Ends} {f : Flow} {s' : Shared} (h : SP (X.wish E) pins D f s') : SP X pins D f s' := by
  cases f with
  | next => obtain ⟨σ', H', I, q⟩ := h; exact ⟨σ', H', I.unwish, q⟩
  | brk => obtain ⟨σ', H', I, q⟩ := h; exact ⟨σ', H', I.unwish, q⟩
  | cont => obtain ⟨σ', H', I, q⟩ := h; exact ⟨σ', H', I.unwish, q⟩
  | ret u => obtain ⟨v, σ', H', I, r, q⟩ := h; exact ⟨v, σ', H', I.unwish, r, q⟩
theorem PE.nox {e : Expr} {t : TE} (h : PE X.nox e t) : PE X e t := fun pins s σ H Q I hw =>
  wpAny_mono (h pins s σ H Q (I.wish _) hw) (fun _ _ ⟨v, H', I', r, q⟩ => ⟨v, H', I'.unwish, r, q⟩) fun _ _ z => False.elim z
theorem PT.nox {e : Expr} {t : TT} (h : PT X.nox e t) : PT X e t := fun pins s σ H Q I hw =>
  wpAny_mono (h pins s σ H Q (I.wish _) hw) (fun _ _ ⟨H', I', q⟩ => ⟨H', I'.unwish, q⟩) fun _ _ z => False.elim z
theorem PSs.nox {st : List Stmt} {t : TS} (h : PSs X.nox st t) : PSs X st t := fun pins s σ H D I hw =>
  wpAny_mono (h pins s σ H D (I.wish _) hw) (fun _ _ q => q.unwish) fun _ _ z => False.elim z
end

/-! ### blocks and small statements -/
section
variable {X : Cx} {st : Stmt} {rest : List Stmt} {t u : TS} {e : Expr} {te : TE} {pos : Pos}
def tNext : TS := fun D σ H => D.nx σ H
def tSeq (t u : TS) : TS := fun D σ H => t { D with nx := u D } σ H
theorem pss_nil : PSs X [] tNext := fun _ _ σ H _ I h => wpAny_execs_nil ⟨σ, H, I, h⟩
theorem pss_cons (h1 : PS X st t) (h2 : PSs X rest u) : PSs X (st :: rest) (tSeq t u) := by
  intro pins s σ H D I h
  refine wpAny_execs_cons (thn (h1 pins s σ H { D with nx := u D } I h) fun f s1 q => ?_)
  cases f with
  | next =>
    obtain ⟨σ', H', I', q⟩ := q
    exact h2 pins s1 σ' H' D I' q
  | ret v => exact q
  | brk => exact q
  | cont => exact q
theorem pss_one (h1 : PS X st t) : PSs X [st] t := by
  intro pins s σ H D I h
  refine wpAny_execs_cons (thn (h1 pins s σ H D I h) fun f s1 q => ?_)
  cases f with
  | next => exact wpAny_execs_nil q
  | ret v => exact q
  | brk => exact q
  | cont => exact q
/-- in a def's body nothing is shown -/
theorem Inv.quiet {pins : List (Addr × Obj)} {σ : St} {H : Hp} {s : Shared} (I : Inv X pins σ H s) : interactive X.env = false := by simp [interactive, I.ok.kind]
/-- an expression whose value is dropped -/
def tDrop (te : TE) : TS := fun D σ H => te σ H fun _ H1 => D.nx σ H1
theorem ps_expr (he : PE X e te) (hs : swapsWith e none pos.line X.env = pure false := by rfl) : PS X (.Expr e pos) (tDrop te) := by
  intro pins s σ H D I h
  exact wpAny_Expr_any (thn (he pins s σ H _ I h) fun v s1 ⟨x, H1, I1, r1, q1⟩ => ⟨σ, H1, I1, q1⟩) I.quiet hs
def tRet (te : TE) : TS := fun D σ H => te σ H D.rt
theorem ps_ret (he : PE X e te) : PS X (.Return (some e) pos) (tRet te) := by
  intro pins s σ H D I h
  exact wpAny_Return_some (thn (he pins s σ H _ I h) fun v s1 ⟨x, H1, I1, r1, q1⟩ => ⟨x, σ, H1, I1, r1, q1⟩)
def tIfS (c : TT) (t u : TS) : TS := fun D σ H => c σ H fun b H1 => if b = true then t D σ H1 else u D σ H1
theorem ps_if {c : Expr} {a b : List Stmt} {tc : TT} (hc : PT X c tc) (ha : PSs X a t) (hb : PSs X b u) : PS X (.If c a b pos) (tIfS tc t u) := by
  intro pins s σ H D I h
  refine wpAny_If (thn (hc pins s σ H _ I h) fun d s1 ⟨H1, I1, q1⟩ => ?_)
  cases d with
  | true => exact ha pins s1 σ H1 D I1 q1
  | false => exact hb pins s1 σ H1 D I1 q1
end

/-! ### targets -/
abbrev TG := V → St → Hp → (St → Hp → Prop) → Prop
abbrev TGs := List V → St → Hp → (St → Hp → Prop) → Prop
def PG (X : Cx) (target : Expr) (t : TG) : Prop :=
  ∀ (pins : List (Addr × Obj)) (s : Shared) (σ : St) (H : Hp) (v : V) (u : Value) (Q : St → Hp → Prop), Inv X pins σ H s → RelV v u → t v σ H Q →
    wpAny (model X.prog X.w) X.A (assign target X.env u) (fun _ s' => ∃ σ' H', Inv X pins σ' H' s' ∧ Q σ' H') X.xe s
/-- several targets, one after another -/
def PGs (X : Cx) (ts : List Expr) (t : TGs) : Prop :=
  ∀ (pins : List (Addr × Obj)) (s : Shared) (σ : St) (H : Hp) (vs : List V) (us : List Value) (Q : St → Hp → Prop), Inv X pins σ H s → Vals vs us → t vs σ H Q →
    wpAny (model X.prog X.w) X.A (assignInOrder ((assignEach ts X.env).map (·.2)) us) (fun _ s' => ∃ σ' H', Inv X pins σ' H' s' ∧ Q σ' H') X.xe s
section
variable {X : Cx} {pos : Pos}
def gName (i : Nat) : TG := fun v σ H Q => Q (σ.set i (some v)) H
theorem pg_name {i : Nat} {x : Str} (hN : X.N.Nodup) (hi : X.N[i]? = some x) (hx : Loc X.env.scope x) (hf : X.fn x = true ∨ X.env.scope.names.lookup x = some .local := by first | exact .inl rfl | exact .inr rfl | assumption) : PG X (.Name x pos) (gName i) := by
  intro pins s σ H v u Q I r h
  exact wpAny_assign_Name (store_ok I hN hi hx r (fun s' I' => ⟨_, H, I', h⟩) hf)
def gNil : TGs := fun vs σ H Q => vs = [] ∧ Q σ H
def gCons (t : TG) (u : TGs) : TGs := fun vs σ H Q => ∃ v r, vs = v :: r ∧ t v σ H fun σ' H' => u r σ' H' Q
theorem pgs_nil : PGs X [] gNil := by
  intro pins s σ H vs us Q I r h
  obtain ⟨e, h⟩ := h
  subst e
  cases r
  exact assignInOrder_nil ⟨σ, H, I, h⟩
theorem pgs_cons {e : Expr} {es : List Expr} {t : TG} {u : TGs} (h1 : PG X e t) (h2 : PGs X es u)
    (hs : (assignEach (e :: es) X.env).map (·.2) = assign e X.env :: (assignEach es X.env).map (·.2) := by rfl) : PGs X (e :: es) (gCons t u) := by
  intro pins s σ H vs us Q I r h
  obtain ⟨v, vr, e1, h⟩ := h
  subst e1
  cases r with
  | cons r rr =>
    rw [hs]
    refine assignInOrder_cons (thn (h1 pins s σ H _ _ _ I r h) fun _ s1 ⟨σ1, H1, I1, q1⟩ => ?_)
    exact h2 pins s1 σ1 H1 _ _ Q I1 rr q1
/-- (a, b, ..) = a tuple of that length -/
def gTup (K : PySem.W.Frag) (n : Nat) (t : TGs) : TG := fun v σ H Q => ∃ a xs, v = .ref a ∧ SqT K H a xs ∧ xs.length = n ∧ t xs σ H Q
theorem pg_tup {es : List Expr} {k : Nat} {t : TGs} {n : Nat} (hc : X.calm = true) (h : PGs X es t)
    (hn : (assignEach es X.env).length = n := by rfl) (hst : (assignEach es X.env).findIdx? (·.1) = none := by rfl) : PG X (.Tuple es k pos) (gTup X.K n t) := by
  intro pins s σ H v u Q I r hw
  obtain ⟨a, xs, e1, hq, hl, hw⟩ := hw
  subst e1
  cases r
  obtain ⟨its, rv, ht, hz⟩ := I.tuple hq
  refine assign_Tuple_tuple (I.ok.hd hc) ht (by simp [hn, ← hl, rv.length]) hst fun h' hx => ?_
  have I1 : Inv X pins σ H { s with heap := h' } := I.kept (t' := s.toks) fun b o e => hx b o (Nat.ne_of_lt (Heap.lt_size e)) e
  exact h pins _ σ H xs _ Q I1 (by simpa using rv) hw
/-- target = value -/
def tAsg (te : TE) (g : TG) : TS := fun D σ H => te σ H fun x H1 => g x σ H1 D.nx
/-- name = value -/
theorem ps_set {i : Nat} {x : Str} {e : Expr} {te : TE} {pos' : Pos} (hN : X.N.Nodup) (hi : X.N[i]? = some x) (hx : Loc X.env.scope x) (he : PE X e te) (hs : swapsWith e (some (.Name x pos')) pos.line X.env = pure false := by rfl) (hf : X.fn x = true ∨ X.env.scope.names.lookup x = some .local := by first | exact .inl rfl | exact .inr rfl | assumption) :
    PS X (.Assign [.Name x pos'] e pos) (tAsg te (gName i)) := by
  intro pins s σ H D I h
  refine wpAny_Assign_Name (thn (he pins s σ H _ I h) fun v s1 ⟨y, H1, I1, r1, q1⟩ => ?_) hs
  exact store_ok I1 hN hi hx r1 (fun s2 I2 => ⟨_, H1, I2, q1⟩) hf
end

/-! ### while -/
section
variable {X : Cx} {pos : Pos}
/-- the invariant W with its measure -/
def tWhile (c : TT) (tb : TS) : TS := fun D σ H => ∃ W : Nat → St → Hp → Prop, (∃ m, W m σ H) ∧ ∀ m σ H, W m σ H →
  c σ H fun b H1 => if b = true then ∃ N : St → Hp → Prop, (∀ σ' H', N σ' H' → ∃ m', m' < m ∧ W m' σ' H') ∧ tb { D with nx := N, ct := N, bk := D.nx } σ H1 else D.nx σ H1
theorem ps_while {c : Expr} {body : List Stmt} {tc : TT} {tb : TS} (hp : PassesOwn (model X.prog X.w) X.A X.env X.xe) (hc : PT X c tc) (hb : PSs X body tb) : PS X (.While c body [] pos) (tWhile tc tb) := by
  intro pins s σ H D I h
  obtain ⟨W, ⟨m0, w0⟩, turn⟩ := h
  refine wpAny_While (codeAny_whileLoop (fun n s' => ∃ σ' H', Inv X pins σ' H' s' ∧ W n σ' H') ?_ m0 ⟨σ, H, I, w0⟩)
  rintro n s1 ⟨σ1, H1, I1, w1⟩
  refine wpAny_passesOwn hp (thn (hc pins s1 σ1 H1 _ I1 (turn n σ1 H1 w1)) fun b s2 ⟨H2, I2, q2⟩ => ?_)
  cases b with
  | true =>
    obtain ⟨N, hN, q2⟩ := q2
    rw [if_pos rfl]
    refine wpAny_passesOwn hp (thn (hb pins s2 σ1 H2 _ I2 q2) fun f s3 q3 => ?_)
    cases f with
    | next =>
      obtain ⟨σ3, H3, I3, n3⟩ := q3
      obtain ⟨m', hm, w3⟩ := hN σ3 H3 n3
      exact ⟨m', hm, σ3, H3, I3, w3⟩
    | cont =>
      obtain ⟨σ3, H3, I3, n3⟩ := q3
      obtain ⟨m', hm, w3⟩ := hN σ3 H3 n3
      exact ⟨m', hm, σ3, H3, I3, w3⟩
    | brk => exact q3
    | ret v => exact q3
  | false =>
    rw [if_neg Bool.false_ne_true]
    exact wpAny_execs_nil ⟨σ1, H2, I2, q2⟩
end

/-! ### what a loop or a comprehension walks -/
/-- at turn i: it yields x (the heap may grow), or it stops -/
structure It where
  go : Nat → Hp → Prop
  yld : Nat → Hp → V → Hp → Prop
  stop : Nat → Hp → Prop
/-- the iterator's own objects may turn: they are not the frame's, not pinned, younger than the entry (or a comprehension's own) -/
def FpOk (X : Cx) (pins : List (Addr × Obj)) (H : Hp) (b : Addr) : Prop :=
  H b = none ∧ b ≠ X.env.locals ∧ b ∉ X.fs ∧ (b ∈ X.ex ∨ X.s₀.heap.objs.size ≤ b) ∧ (∀ x c, X.env.cells.lookup x = some c → c ≠ b) ∧ ∀ p ∈ X.pn ++ pins, p.1 ≠ b
theorem Inv.fpOk {X : Cx} {pins : List (Addr × Obj)} {σ : St} {H H' : Hp} {s : Shared} {b : Addr} (I : Inv X pins σ H s) (hb : s.heap.objs.size ≤ b) (hn : H' b = none) : FpOk X pins H' b := by
  refine ⟨hn, Nat.ne_of_gt (Nat.lt_of_lt_of_le I.lt hb), I.nofs hb, .inr (Nat.le_trans I.sz hb), fun x c e z => ?_, fun p hp z => ?_⟩
  · obtain ⟨v, q⟩ := I.cell x c e
    exact absurd (Nat.lt_of_lt_of_le q.lt (by rw [z]; exact hb)) (Nat.lt_irrefl _)
  · exact absurd (Nat.lt_of_lt_of_le (Heap.lt_size (I.pin p hp).1) (by rw [z]; exact hb)) (Nat.lt_irrefl _)
structure Turn (P : Program) (w : World) (K : PySem.W.Frag) (tg : Expr) (J : It) (fp : List Addr) (it : Addr) (tn : Nat → Heap → Prop) : Prop where
  mem : it ∈ fp
  obj : ∀ i h, tn i h → ∀ b ∈ fp, ∃ o, h.get? b = some o ∧ ∀ v, o.data ≠ .cell v
  keep : ∀ i h h', tn i h → (∀ b ∈ fp, ∀ o, h.get? b = some o → h'.get? b = some o) → tn i h'
  item : ∀ (X : Cx), X.prog = P → X.w = w → X.K = K → X.calm = true → ∀ (i : Nat) (pins : List (Addr × Obj)) (s : Shared) (σ : St) (H : Hp) (E : Value → Shared → Prop), Inv X pins σ H s → (∀ b ∈ fp, FpOk X pins H b) → tn i s.heap → J.go i H →
    wpAny (model P w) X.A (pyNext (.ref it)) (fun r s1 => ∃ u, r = some u ∧
      wpAny (model P w) X.A (letOwnedTupleGo tg (.ref it) u) (fun _ s2 => ∃ x H', Inv X pins σ H' s2 ∧ RelV x u ∧ J.yld i H x H' ∧ tn (i + 1) s2.heap ∧ ∀ b ∈ fp, H' b = none) E s1) E s
  done : ∀ (X : Cx), X.prog = P → X.w = w → X.K = K → X.calm = true → ∀ (i : Nat) (pins : List (Addr × Obj)) (s : Shared) (σ : St) (H : Hp) (E : Value → Shared → Prop), Inv X pins σ H s → (∀ b ∈ fp, FpOk X pins H b) → tn i s.heap → J.stop i H →
    wpAny (model P w) X.A (pyNext (.ref it)) (fun r s1 => r = none ∧ Inv X pins σ H s1) E s
  self : ∀ (A : Around) (i : Nat) (s : Shared) (Q : Value → Shared → Prop) (E : Value → Shared → Prop), tn i s.heap → Q (.ref it) s → wpAny (model P w) A (pyIter (.ref it)) Q E s
abbrev TI := St → Hp → (It → Hp → Prop) → Prop
/-- an iterator has come -/
def PIE (X : Cx) (pins : List (Addr × Obj)) (σ : St) (tg : Expr) (R : It → Hp → Prop) (itv : Value) (s2 : Shared) : Prop :=
  ∃ (it : Addr) (fp : List Addr) (tn : Nat → Heap → Prop) (J : It) (H' : Hp), itv = .ref it ∧ Inv X pins σ H' s2 ∧ Turn X.prog X.w X.K tg J fp it tn ∧ tn 0 s2.heap ∧ (∀ b ∈ fp, FpOk X pins H' b) ∧ R J H'
def PI (X : Cx) (tg iter : Expr) (wi : TI) : Prop :=
  ∀ (pins : List (Addr × Obj)) (s : Shared) (σ : St) (H : Hp) (R : It → Hp → Prop), Inv X pins σ H s → wi σ H R →
    wpAny (model X.prog X.w) X.A (eval iter X.env) (fun v s1 => wpAny (model X.prog X.w) X.A (pyIter v) (PIE X pins σ tg R) X.xe s1) X.xe s

/-- the step ahead of the store is nothing for an iterator that keeps no tuple -/
theorem go_of {M : Model} {A : Around} {E : Value → Shared → Prop} {s : Shared} {tg : Expr} {it : Addr} {u : Value} {o : Obj} {n : String} {vs : Array Value} {Q : Unit → Shared → Prop} (ho : s.heap.get? it = some o) (hc : o.cls = .type n) (hd : o.data = .fields vs)
    (hn : ["enumerate", "zip", "dict_itemiterator", "dict_reverseitemiterator", "odict_iterator", "itertools.zip_longest", "itertools.pairwise"].contains n = false) (hQ : Q () s) : wpAny M A (letOwnedTupleGo tg (.ref it) u) Q E s := by
  unfold letOwnedTupleGo
  cases tg <;> first
    | exact wpAny_pure hQ
    | (cases u <;> first
        | exact wpAny_pure hQ
        | (refine wpAny_bind (wpAny_load ho ?_)
           rw [hc, hd]
           show wpAny M A (if (["enumerate", "zip", "dict_itemiterator", "dict_reverseitemiterator", "odict_iterator", "itertools.zip_longest", "itertools.pairwise"].contains n && vs[0]? == some (rawInt _)) = true then _ else _) Q E s
           rw [if_neg (by intro h; rw [hn, Bool.false_and] at h; cases h)]
           exact wpAny_pure hQ))

/-- the list at a, as it stands at each turn (a loop may append to it) -/
def Itl (K : PySem.W.Frag) (a : Addr) : It :=
  ⟨fun i H => ∃ xs x, SqL K H a xs ∧ xs[i]? = some x, fun i H x H' => H' = H ∧ ∀ xs, SqL K H a xs → xs[i]? = some x, fun i H => ∃ xs, SqL K H a xs ∧ xs.length ≤ i⟩
def Itt (K : PySem.W.Frag) (a : Addr) : It :=
  ⟨fun i H => ∃ xs x, SqT K H a xs ∧ xs[i]? = some x, fun i H x H' => H' = H ∧ ∀ xs, SqT K H a xs → xs[i]? = some x, fun i H => ∃ xs, SqT K H a xs ∧ xs.length ≤ i⟩
/-- lo, lo + 1, .. (n of them) -/
def Itr (lo : Int) (n : Nat) : It := ⟨fun i _ => i < n, fun i H x H' => H' = H ∧ x = .int (lo + i), fun i _ => n ≤ i⟩
theorem turn_list {P : Program} {w : World} {K : PySem.W.Frag} {tg : Expr} (a it : Addr) : Turn P w K tg (Itl K a) [it] it (fun i h => h.IsListIter it a i) where
  mem := by simp
  obj := fun i h st b hb => by
    have e : b = it := by simpa using hb
    subst e
    obtain ⟨o, e, c, d⟩ := st
    exact ⟨o, e, fun v z => by rw [d] at z; cases z⟩
  keep := fun i h h' st k => st.at fun o e => k it (by simp) o e
  item := by
    intro X hP hw hK hc i pins s σ H E I hf st hg
    subst hP hw hK
    obtain ⟨xs, x, hq, hx⟩ := hg
    obtain ⟨its, rv, p, hz⟩ := I.list hq
    obtain ⟨u, hu, ru⟩ := rv.get hx
    obtain ⟨f0, f1, f2, f3, f4, f5⟩ := hf it (by simp)
    refine wpAny_pyNext_list_item st p.isList (x := u) (by simpa using hu) fun h' st' sb => ?_
    have I1 : Inv X pins σ H { s with heap := h' } := I.turned (t' := s.toks) (fun b o hb e => (sb.2 b hb).trans e) f0 f1 f3 f4 f5
    obtain ⟨o, e, c, d⟩ := id st'
    exact ⟨u, rfl, go_of (s := { s with heap := h' }) e c d (by decide) ⟨x, H, I1, ru, ⟨rfl, fun ys hy => by rw [I.list_inj hy hq]; exact hx⟩, st', fun b hb => (hf b hb).1⟩⟩
  done := by
    intro X hP hw hK hc i pins s σ H E I hf st hg
    subst hP hw hK
    obtain ⟨xs, hq, hx⟩ := hg
    obtain ⟨its, rv, p, hz⟩ := I.list hq
    obtain ⟨f0, f1, f2, f3, f4, f5⟩ := hf it (by simp)
    have hl := rv.length
    exact wpAny_pyNext_list_end (I.ok.hd hc) st p.isList (by simp; omega) fun h' eb => ⟨rfl, I.turned (t' := s.toks) (fun b o hb e => eb b o hb e) f0 f1 f3 f4 f5⟩
  self := fun _ _ _ _ _ st h => wpAny_pyIter_listiter st h
theorem turn_tuple {P : Program} {w : World} {K : PySem.W.Frag} {tg : Expr} (a it : Addr) : Turn P w K tg (Itt K a) [it] it (fun i h => h.IsTupleIter it a i) where
  mem := by simp
  obj := fun i h st b hb => by
    have e : b = it := by simpa using hb
    subst e
    obtain ⟨o, e, c, d⟩ := st
    exact ⟨o, e, fun v z => by rw [d] at z; cases z⟩
  keep := fun i h h' st k => st.at fun o e => k it (by simp) o e
  item := by
    intro X hP hw hK hc i pins s σ H E I hf st hg
    subst hP hw hK
    obtain ⟨xs, x, hq, hx⟩ := hg
    obtain ⟨its, rv, p, hz⟩ := I.tuple hq
    obtain ⟨u, hu, ru⟩ := rv.get hx
    obtain ⟨f0, f1, f2, f3, f4, f5⟩ := hf it (by simp)
    refine wpAny_pyNext_tuple_item st (show s.heap.IsTuple a its.toArray from p) (x := u) (by simpa using hu) fun h' st' sb => ?_
    have I1 : Inv X pins σ H { s with heap := h' } := I.turned (t' := s.toks) (fun b o hb e => (sb.2 b hb).trans e) f0 f1 f3 f4 f5
    obtain ⟨o, e, c, d⟩ := id st'
    exact ⟨u, rfl, go_of (s := { s with heap := h' }) e c d (by decide) ⟨x, H, I1, ru, ⟨rfl, fun ys hy => by rw [I.tuple_inj hy hq]; exact hx⟩, st', fun b hb => (hf b hb).1⟩⟩
  done := by
    intro X hP hw hK hc i pins s σ H E I hf st hg
    subst hP hw hK
    obtain ⟨xs, hq, hx⟩ := hg
    obtain ⟨its, rv, p, hz⟩ := I.tuple hq
    obtain ⟨f0, f1, f2, f3, f4, f5⟩ := hf it (by simp)
    have hl := rv.length
    exact wpAny_pyNext_tuple_end (I.ok.hd hc) st (show s.heap.IsTuple a its.toArray from p) (by simp; omega) fun h' eb => ⟨rfl, I.turned (t' := s.toks) (fun b o hb e => eb b o hb e) f0 f1 f3 f4 f5⟩
  self := fun _ _ _ _ _ st h => wpAny_pyIter_tupleiter st h
theorem turn_range {P : Program} {w : World} {K : PySem.W.Frag} {tg : Expr} (it : Addr) (lo : Int) (n : Nat) : Turn P w K tg (Itr lo n) [it] it (fun i h => IsRangeIter h it (lo + (i : Nat) * 1) ((n : Int) - (i : Nat)) 1) where
  mem := by simp
  obj := fun i h st b hb => by
    have e : b = it := by simpa using hb
    subst e
    exact ⟨_, st, fun v z => by
      have z' : Data.fields _ = Data.cell v := z
      cases z'⟩
  keep := fun i h h' st k => k it (by simp) _ st
  item := by
    intro X hP hw hK hc i pins s σ H E I hf st hg
    subst hP hw hK
    obtain ⟨f0, f1, f2, f3, f4, f5⟩ := hf it (by simp)
    have W := Walks.range (prog := X.prog) (w := X.w) (I.ok.hd hc) it lo 1 n
    refine W.item i s _ _ hg st fun v h' tk hv st' kk => ?_
    obtain ⟨t, rfl⟩ := hv
    have I1 : Inv X pins σ H { s with heap := h', toks := tk } := I.turned (fun b o hb e => kk b o (by simpa using hb) e) f0 f1 f3 f4 f5
    refine ⟨_, rfl, go_of (s := { s with heap := h', toks := tk }) (n := "range_iterator") st' rfl rfl (by decide) ⟨.int (lo + i), H, I1, ⟨t, ?_⟩, ⟨rfl, rfl⟩, st', fun b hb => (hf b hb).1⟩⟩
    rw [Int.mul_one]
  done := by
    intro X hP hw hK hc i pins s σ H E I hf st hg
    subst hP hw hK
    obtain ⟨f0, f1, f2, f3, f4, f5⟩ := hf it (by simp)
    exact wpAny_pyNext_range_end (I.ok.hd hc) st (by have : n ≤ i := hg; omega) fun h' eb => ⟨rfl, I.turned (t' := s.toks) (fun b o hb e => eb b o hb e) f0 f1 f3 f4 f5⟩
  self := fun _ _ _ _ _ st h => wpAny_pyIter_rangeiter st h
end L2

namespace L2
open PySem PySem.Spec PyProof.Rows
section
variable {X : Cx} {tg : Expr}
def iList (K : PySem.W.Frag) (tl : TE) : TI := fun σ H R => tl σ H fun x H1 => ∃ a, x = .ref a ∧ (∃ xs, SqL K H1 a xs) ∧ R (Itl K a) H1
def iTup (K : PySem.W.Frag) (tl : TE) : TI := fun σ H R => tl σ H fun x H1 => ∃ a, x = .ref a ∧ (∃ xs, SqT K H1 a xs) ∧ R (Itt K a) H1
theorem pi_list {l : Expr} {tl : TE} (hl : PE X l tl) : PI X tg l (iList X.K tl) := by
  intro pins s σ H R I h
  refine thn (hl pins s σ H _ I h) fun v s1 ⟨x, H1, I1, r1, q1⟩ => ?_
  obtain ⟨a, e, ⟨xs, hq⟩, q⟩ := q1
  subst e
  cases r1
  obtain ⟨its, rv, p, hz⟩ := I1.list hq
  refine wpAny_pyIter_list p.isList ?_
  refine ⟨s1.heap.objs.size, [s1.heap.objs.size], _, _, H1, rfl, I1.kept (t' := s1.toks) fun b o e => Heap.get?_push_of_some _ e, turn_list a _, ⟨_, Heap.get?_push_size _ rfl, rfl, rfl⟩, fun b hb => ?_, q⟩
  have e : b = s1.heap.objs.size := by simpa using hb
  subst e
  exact I1.fpOk (Nat.le_refl _) (I1.hok.fresh (Nat.le_refl _))
theorem pi_tup {l : Expr} {tl : TE} (hl : PE X l tl) : PI X tg l (iTup X.K tl) := by
  intro pins s σ H R I h
  refine thn (hl pins s σ H _ I h) fun v s1 ⟨x, H1, I1, r1, q1⟩ => ?_
  obtain ⟨a, e, ⟨xs, hq⟩, q⟩ := q1
  subst e
  cases r1
  obtain ⟨its, rv, p, hz⟩ := I1.tuple hq
  refine wpAny_pyIter_tuple (show s1.heap.IsTuple a its.toArray from p) ?_
  refine ⟨s1.heap.objs.size, [s1.heap.objs.size], _, _, H1, rfl, I1.kept (t' := s1.toks) fun b o e => Heap.get?_push_of_some _ e, turn_tuple a _, ⟨_, Heap.get?_push_size _ rfl, rfl, rfl⟩, fun b hb => ?_, q⟩
  have e : b = s1.heap.objs.size := by simpa using hb
  subst e
  exact I1.fpOk (Nat.le_refl _) (I1.hok.fresh (Nat.le_refl _))
/-- a range object just made, walked -/
theorem range_it {pins : List (Addr × Obj)} {σ : St} {H : Hp} {s : Shared} {R : It → Hp → Prop} {E : Value → Shared → Prop} {lo hi : Int} {t u v : Tok} {tk : Nat} (I : Inv X pins σ H s) (h1 : -(2 ^ 62) ≤ lo) (h2 : lo < 2 ^ 62) (h3 : -(2 ^ 62) ≤ hi) (h4 : hi < 2 ^ 62)
    (q : R (Itr lo (hi - lo).toNat) H) : wpAny (model X.prog X.w) X.A (pyIter (.ref s.heap.objs.size)) (PIE X pins σ tg R) E { s with heap := s.heap.push { cls := .type "range", data := .fields #[.int lo t, .int hi u, .int 1 v] }, toks := tk } := by
  refine wpAny_pyIter_range (IsRange.new ..) (small_one h1 h2 h3 h4) ?_
  have I1 : Inv X pins σ H { s with heap := s.heap.push { cls := .type "range", data := .fields #[.int lo t, .int hi u, .int 1 v] }, toks := tk } := I.kept fun b o e => Heap.get?_push_of_some _ e
  refine ⟨(s.heap.push { cls := .type "range", data := .fields #[.int lo t, .int hi u, .int 1 v] }).objs.size, [(s.heap.push { cls := .type "range", data := .fields #[.int lo t, .int hi u, .int 1 v] }).objs.size], _, _, H, rfl,
    I1.kept (t' := tk) fun b o e => Heap.get?_push_of_some _ e, turn_range _ lo (hi - lo).toNat, ?_, fun b hb => ?_, q⟩
  · have e1 : lo + ((0 : Nat) : Int) * 1 = lo := by simp
    have e2 : (((hi - lo).toNat : Nat) : Int) - ((0 : Nat) : Int) = Builtin.Range.rangeSize lo hi 1 := by rw [rangeSize_one]; split <;> omega
    show IsRangeIter _ _ (lo + ((0 : Nat) : Int) * 1) ((((hi - lo).toNat : Nat) : Int) - ((0 : Nat) : Int)) 1
    rw [e1, e2]
    exact Heap.get?_push_size _ rfl
  · have e : b = (s.heap.push { cls := .type "range", data := .fields #[.int lo t, .int hi u, .int 1 v] }).objs.size := by simpa using hb
    subst e
    exact I1.fpOk (Nat.le_refl _) (I1.hok.fresh (Nat.le_refl _))
def iRng1 (ta : TA) : TI := fun σ H R => ta σ H fun vs H1 => ∃ j : Int, vs = [.int j] ∧ -(2 ^ 62) ≤ j ∧ j < 2 ^ 62 ∧ R (Itr 0 j.toNat) H1
theorem pi_range1 {a : Expr} {ta : TA} {p pos : Pos} (hg : Gl X "range") (hm : X.mg "range" = none) (ha : PA X [a] ta) (hs : starEach [a] X.env = [(false, eval a X.env)] := by rfl) : PI X tg (.Call (.Name "range" p) [a] [] pos) (iRng1 ta) := by
  intro pins s σ H R I h
  refine Call_ (ld_blt I hg hm boot_range (PyProof.Rows.callWith_type1 (thn (ha pos pins s σ H _ I h) fun us s1 ⟨vs, H1, I1, r1, q1⟩ => ?_) hs rfl))
  obtain ⟨j, e, q1, q2, q⟩ := q1
  subst e
  cases r1 with
  | cons r rr =>
    cases rr
    obtain ⟨t, rfl⟩ := r
    exact call_range_1 (range_it I1 (by omega) (by omega) q1 q2 (by simpa using q))
/-! ### for -/
/-- W: the invariant by the turn and a measure; N: what the body is to reach -/
def tFor (wi : TI) (g : TG) (tb : TS) : TS := fun D σ H => wi σ H fun J H1 => ∃ W : Nat → Nat → St → Hp → Prop, (∃ m, W 0 m σ H1) ∧ ∀ i m σ H, W i m σ H →
  (J.stop i H ∧ D.nx σ H) ∨ (J.go i H ∧ ∃ N : St → Hp → Prop, (∀ σ' H', N σ' H' → ∃ m', m' < m ∧ W (i + 1) m' σ' H') ∧ ∀ x H', J.yld i H x H' → g x σ H' fun σ2 H2 => tb { D with nx := N, ct := N, bk := D.nx } σ2 H2)
/-- the records at fp as they stand -/
def pinsAt (fp : List Addr) (h : Heap) : List (Addr × Obj) := fp.filterMap fun b => (h.get? b).map fun o => (b, o)
theorem mem_pinsAt {fp : List Addr} {h : Heap} {b : Addr} {o : Obj} (hb : b ∈ fp) (e : h.get? b = some o) : (b, o) ∈ pinsAt fp h := List.mem_filterMap.mpr ⟨b, hb, by rw [e]; rfl⟩
theorem of_pinsAt {fp : List Addr} {h : Heap} {p : Addr × Obj} (hp : p ∈ pinsAt fp h) : p.1 ∈ fp ∧ h.get? p.1 = some p.2 := by
  obtain ⟨b, hb, e⟩ := List.mem_filterMap.mp hp
  cases q : h.get? b with
  | none => rw [q] at e; cases e
  | some o =>
    rw [q] at e
    have e' : (b, o) = p := Option.some.inj e
    subst e'
    exact ⟨hb, q⟩
theorem Inv.pinned {pins : List (Addr × Obj)} {σ : St} {H : Hp} {s : Shared} {fp : List Addr} (I : Inv X pins σ H s) (hf : ∀ b ∈ fp, FpOk X pins H b) (ho : ∀ b ∈ fp, ∃ o, s.heap.get? b = some o ∧ ∀ v, o.data ≠ .cell v) : Inv X (pins ++ pinsAt fp s.heap) σ H s :=
  I.pins_of fun p hp => (List.mem_append.mp hp).elim (fun z => I.pin p (List.mem_append_right _ z)) fun z => by
    obtain ⟨hb, e⟩ := of_pinsAt z
    obtain ⟨f0, f1, f2, _⟩ := hf p.1 hb
    obtain ⟨o, e', d⟩ := ho p.1 hb
    rw [e] at e'; cases e'
    exact ⟨e, f0, f1, f2, d⟩
theorem Inv.unpinned {pins pl : List (Addr × Obj)} {σ : St} {H : Hp} {s : Shared} (I : Inv X (pins ++ pl) σ H s) : Inv X pins σ H s := I.pins_of fun p hp => I.pin p (List.mem_append_right _ (List.mem_append_left _ hp))
theorem ps_for {iter : Expr} {body : List Stmt} {wi : TI} {g : TG} {tb : TS} {pos : Pos} (hp : PassesOwn (model X.prog X.w) X.A X.env X.xe) (hc : X.calm = true) (hi : PI X tg iter wi) (hg : PG X tg g) (hb : PSs X body tb)
    (hs : ∀ x, foldedSetIterable iter X.env x = pure x := by intro _; rfl) : PS X (.For tg iter body [] pos) (tFor wi g tb) := by
  intro pins s σ H D I h
  refine wpAny_For (thn (hi pins s σ H _ I h) fun v s1 h1 => thn h1 fun itv s2 h2 => ?_) hs
  obtain ⟨it, fp, tn, J, H2, e, I2, T, st2, f2, W, ⟨m0, w0⟩, turn⟩ := h2
  subst e
  -- what stays true of the iterator's objects through the loop
  have stat : ∀ {H' : Hp}, (∀ b ∈ fp, H' b = none) → ∀ b ∈ fp, FpOk X pins H' b := fun hn b hb => ⟨hn b hb, (f2 b hb).2⟩
  refine codeAny_forLoop_any (fun n s' => ∃ i σ' H', Inv X pins σ' H' s' ∧ tn i s'.heap ∧ (∀ b ∈ fp, H' b = none) ∧ W i n σ' H') ?_ m0 ⟨0, σ, H2, I2, st2, fun b hb => (f2 b hb).1, w0⟩
  rintro n s3 ⟨i, σ3, H3, I3, st3, fr3, w3⟩
  rcases turn i n σ3 H3 w3 with ⟨stop, qn⟩ | ⟨go, N, hN, step⟩
  · refine wpAny_passesOwn hp (thn (T.done X rfl rfl rfl hc i pins s3 σ3 H3 X.xe I3 (stat fr3) st3 stop) fun r s4 ⟨hr, I4⟩ => ?_)
    subst hr
    exact wpAny_execs_nil ⟨σ3, H3, I4, qn⟩
  · refine wpAny_passesOwn hp (thn (T.item X rfl rfl rfl hc i pins s3 σ3 H3 X.xe I3 (stat fr3) st3 go) fun r s4 ⟨u, hr, h4⟩ => ?_)
    subst hr
    refine wpAny_passesOwn hp (thn h4 fun _ s5 ⟨x, H5, I5, r5, y5, st5, fr5⟩ => ?_)
    have I5' := I5.pinned (stat fr5) (T.obj _ _ st5)
    refine wpAny_passesOwn hp (thn (hg _ s5 σ3 H5 x u _ I5' r5 (step x H5 y5)) fun _ s6 ⟨σ6, H6, I6, q6⟩ => ?_)
    refine wpAny_passesOwn hp (thn (hb _ s6 σ6 H6 _ I6 q6) fun f s7 q7 => ?_)
    have again : ∀ {σ7 : St} {H7 : Hp}, Inv X (pins ++ pinsAt fp s5.heap) σ7 H7 s7 → N σ7 H7 → ∃ m, m < n ∧ ∃ i σ' H', Inv X pins σ' H' s7 ∧ tn i s7.heap ∧ (∀ b ∈ fp, H' b = none) ∧ W i m σ' H' := fun {σ7 H7} I7 n7 => by
      obtain ⟨m', hm, w7⟩ := hN σ7 H7 n7
      refine ⟨m', hm, i + 1, σ7, H7, I7.unpinned, T.keep _ _ _ st5 fun b hb o e => (I7.pin (b, o) (List.mem_append_right _ (List.mem_append_right _ (mem_pinsAt hb e)))).1, fun b hb => ?_, w7⟩
      obtain ⟨o, e, d⟩ := T.obj _ _ st5 b hb
      exact (I7.pin (b, o) (List.mem_append_right _ (List.mem_append_right _ (mem_pinsAt hb e)))).2.1
    cases f with
    | next => obtain ⟨σ7, H7, I7, n7⟩ := q7; exact again I7 n7
    | cont => obtain ⟨σ7, H7, I7, n7⟩ := q7; exact again I7 n7
    | brk => obtain ⟨σ7, H7, I7, q7⟩ := q7; exact ⟨σ7, H7, I7.unpinned, q7⟩
    | ret v => obtain ⟨x7, σ7, H7, I7, r7, q7⟩ := q7; exact ⟨x7, σ7, H7, I7.unpinned, r7, q7⟩
end

end L2

namespace L2
open PySem PySem.Spec PyProof.Rows

abbrev R2 := V → V → Hp → VK → Prop
/-- a two-place operation on values: f is binaryOp op, inplaceOp op or compareOp op -/
def OpR (X : Cx) (f : Value → Value → Sem Value) (r : R2) : Prop :=
  ∀ (pins : List (Addr × Obj)) (s : Shared) (σ : St) (H : Hp) (x y : V) (v u : Value) (Q : VK), Inv X pins σ H s → RelV x v → RelV y u → r x y H Q →
    wpAny (model X.prog X.w) X.A (f v u) (EP X pins σ Q) X.xe s
/-- a one-place operation -/
def UnR (X : Cx) (f : Value → Sem Value) (r : V → Hp → VK → Prop) : Prop :=
  ∀ (pins : List (Addr × Obj)) (s : Shared) (σ : St) (H : Hp) (x : V) (v : Value) (Q : VK), Inv X pins σ H s → RelV x v → r x H Q →
    wpAny (model X.prog X.w) X.A (f v) (EP X pins σ Q) X.xe s
/-- a call of a value that is known (a builtin, a type) with values -/
def CallR (X : Cx) (f : Value) (r : List V → Hp → VK → Prop) : Prop :=
  ∀ (pins : List (Addr × Obj)) (s : Shared) (σ : St) (H : Hp) (xs : List V) (us : List Value) (Q : VK), Inv X pins σ H s → Vals xs us → r xs H Q →
    wpAny (model X.prog X.w) X.A (call f us) (EP X pins σ Q) X.xe s
def tOp (r : R2) (ta tb : TE) : TE := fun σ H Q => ta σ H fun x H1 => tb σ H1 fun y H2 => r x y H2 Q
def tUn (r : V → Hp → VK → Prop) (ta : TE) : TE := fun σ H Q => ta σ H fun x H1 => r x H1 Q
/-- ints in, under C, and a value out -/
def rI (C : Int → Int → Prop) (g : Int → Int → V) : R2 := fun x y H Q => ∃ i j, x = .int i ∧ y = .int j ∧ C i j ∧ Q (g i j) H
def rI0 (g : Int → Int → V) : R2 := fun x y H Q => ∃ i j, x = .int i ∧ y = .int j ∧ Q (g i j) H
def rU (g : Int → V) : V → Hp → VK → Prop := fun x H Q => ∃ i, x = .int i ∧ Q (g i) H

section
variable {X : Cx} {a b c : Expr} {ta tb tc : TE} {pos : Pos}

theorem binT (ha : PE X a ta) (hb : PE X b tb) {pins : List (Addr × Obj)} {s : Shared} {σ : St} {H : Hp} {R : V → V → Hp → Prop} (I : Inv X pins σ H s)
    (h : ta σ H fun x H1 => tb σ H1 fun y H2 => R x y H2) {Q : Value → Shared → Prop} {f : Value → Value → Sem Value}
    (hf : ∀ v u s2 x y H2, Inv X pins σ H2 s2 → RelV x v → RelV y u → R x y H2 → wpAny (model X.prog X.w) X.A (f v u) Q X.xe s2) :
    wpAny (model X.prog X.w) X.A (eval a X.env) (fun v s₁ => wpAny (model X.prog X.w) X.A (eval b X.env) (fun u s₂ => wpAny (model X.prog X.w) X.A (f v u) Q X.xe s₂) X.xe s₁) X.xe s := by
  refine thn (ha pins s σ H _ I h) fun v s1 ⟨x, H1, I1, r1, q1⟩ => ?_
  refine thn (hb pins s1 σ H1 _ I1 q1) fun u s2 ⟨y, H2, I2, r2, q2⟩ => ?_
  exact hf v u s2 x y H2 I2 r1 r2 q2

theorem pe_op {op : Operator} {r : R2} (ho : OpR X (binaryOp op) r) (ha : PE X a ta) (hb : PE X b tb) : PE X (.BinOp a op b pos) (tOp r ta tb) := by
  intro pins s σ H Q I h
  exact wpAny_BinOp (binT ha hb I h fun v u s2 x y H2 I2 rx ry q => ho pins s2 σ H2 x y v u Q I2 rx ry q)
theorem pe_un {op : UnaryOp} {r : V → Hp → VK → Prop} (ho : UnR X (unaryOp op) r) (ha : PE X a ta) : PE X (.UnaryOp op a pos) (tUn r ta) := by
  intro pins s σ H Q I h
  exact UnaryOp_ (thn (ha pins s σ H _ I h) fun v s1 ⟨x, H1, I1, r1, q1⟩ => ho pins s1 σ H1 x v Q I1 r1 q1)
/-! ### ints -/
theorem opI {f : Value → Value → Sem Value} {C : Int → Int → Prop} {g : Int → Int → Int}
    (rule : ∀ (i j : Int) (t u : Tok) (s : Shared) (Q : Value → Shared → Prop) (E : Value → Shared → Prop), C i j → Q (.int (g i j) s.toks) { s with toks := s.toks + 1 } → wpAny (model X.prog X.w) X.A (f (.int i t) (.int j u)) Q E s) :
    OpR X f (rI C fun i j => .int (g i j)) := by
  intro pins s σ H x y v u Q I rx ry h
  obtain ⟨i, j, rfl, rfl, hc, q⟩ := h
  obtain ⟨t, rfl⟩ := rx
  obtain ⟨t', rfl⟩ := ry
  exact rule i j t t' s _ _ hc ⟨.int (g i j), H, I.tok _, ⟨_, rfl⟩, q⟩
theorem opI0 {f : Value → Value → Sem Value} {g : Int → Int → Int}
    (rule : ∀ (i j : Int) (t u : Tok) (s : Shared) (Q : Value → Shared → Prop) (E : Value → Shared → Prop), Q (.int (g i j) s.toks) { s with toks := s.toks + 1 } → wpAny (model X.prog X.w) X.A (f (.int i t) (.int j u)) Q E s) :
    OpR X f (rI0 fun i j => .int (g i j)) := by
  intro pins s σ H x y v u Q I rx ry h
  obtain ⟨i, j, rfl, rfl, q⟩ := h
  obtain ⟨t, rfl⟩ := rx
  obtain ⟨t', rfl⟩ := ry
  exact rule i j t t' s _ _ ⟨.int (g i j), H, I.tok _, ⟨_, rfl⟩, q⟩
theorem opB0 {f : Value → Value → Sem Value} {g : Int → Int → Bool}
    (rule : ∀ (i j : Int) (t u : Tok) (s : Shared) (Q : Value → Shared → Prop) (E : Value → Shared → Prop), Q (.bool (g i j)) s → wpAny (model X.prog X.w) X.A (f (.int i t) (.int j u)) Q E s) :
    OpR X f (rI0 fun i j => .bl (g i j)) := by
  intro pins s σ H x y v u Q I rx ry h
  obtain ⟨i, j, rfl, rfl, q⟩ := h
  obtain ⟨t, rfl⟩ := rx
  obtain ⟨t', rfl⟩ := ry
  exact rule i j t t' s _ _ ⟨.bl (g i j), H, I, rfl, q⟩

def CPow (i j : Int) : Prop := 0 ≤ j ∧ j ≤ 1000000 ∧ i.natAbs < 2 ^ 64
def CMul (i j : Int) : Prop := (-(2 ^ 64) < i ∧ i < 2 ^ 64) ∨ (-(2 ^ 64) < j ∧ j < 2 ^ 64)
theorem CMul.ok {i j : Int} (h : CMul i j) : IntMulOk i j := by
  rcases h with ⟨h1, h2⟩ | ⟨h1, h2⟩
  · exact .of_left (intBits_le_64 h1 h2)
  · exact .of_right (intBits_le_64 h1 h2)
theorem op_add : OpR X (binaryOp .Add) (rI0 fun i j => .int (i + j)) := opI0 fun _ _ _ _ _ _ _ q => add_int q
/-- % by a positive divisor of any size -/
theorem op_mod : OpR X (binaryOp .Mod) (rI (fun _ j => 0 < j) fun i j => .int (i % j)) := opI fun i j _ _ _ _ _ hc q => by
  have h1 : (0 : Int) < j := hc
  exact mod_int' (by omega) (by rw [Int.fmod_eq_emod_of_nonneg i (by omega)]; exact q)
theorem op_pow : OpR X (binaryOp .Pow) (rI CPow fun i j => .int (i ^ j.toNat)) := opI fun _ _ _ _ _ _ _ hc q => pow_int_small hc.1 hc.2.1 hc.2.2 q
theorem unI {f : Value → Sem Value} {g : Int → Int}
    (rule : ∀ (i : Int) (t : Tok) (s : Shared) (Q : Value → Shared → Prop) (E : Value → Shared → Prop), Q (.int (g i) s.toks) { s with toks := s.toks + 1 } → wpAny (model X.prog X.w) X.A (f (.int i t)) Q E s) :
    UnR X f (rU fun i => .int (g i)) := by
  intro pins s σ H x v Q I rx h
  obtain ⟨i, rfl, q⟩ := h
  obtain ⟨t, rfl⟩ := rx
  exact rule i t s _ _ ⟨.int (g i), H, I.tok _, ⟨_, rfl⟩, q⟩
theorem un_neg : UnR X (unaryOp .USub) (rU fun i => .int (-i)) := unI fun _ _ _ _ _ q => neg_int q
end

/-! ### comparisons -/
/-- the scalars that == tells apart as data does -/
def scal : V → V → Bool
  | .non, .non => true | .non, .int _ => true | .int _, .non => true | .non, .bl _ => true | .bl _, .non => true | .non, .str _ => true | .str _, .non => true
  | .int _, .int _ => true | .bl _, .bl _ => true | .str _, .str _ => true | .byt _, .byt _ => true
  | .int _, .str _ => true | .str _, .int _ => true | .bl _, .str _ => true | .str _, .bl _ => true
  | _, _ => false
def rEq : R2 := fun x y H Q => scal x y = true ∧ Q (.bl (decide (x = y))) H
def rNe : R2 := fun x y H Q => scal x y = true ∧ Q (.bl (!decide (x = y))) H

theorem dec_int {i j : Int} : decide (V.int i = V.int j) = (i == j) := by
  rw [Bool.eq_iff_iff]
  simp
theorem dec_bl {i j : Bool} : decide (V.bl i = V.bl j) = (i == j) := by
  rw [Bool.eq_iff_iff]
  simp
theorem dec_str {i j : Str} : decide (V.str i = V.str j) = (i == j) := by
  rw [Bool.eq_iff_iff]
  simp
theorem dec_byt {i j : Array UInt8} : decide (V.byt i = V.byt j) = (i.toList == j.toList) := by
  rw [Bool.eq_iff_iff]
  cases i
  cases j
  simp

section
variable {X : Cx} {a b c : Expr} {ta tb tc : TE} {pos : Pos}
theorem fin_bl {pins : List (Addr × Obj)} {σ : St} {H : Hp} {s : Shared} {Q : VK} {k k' : Bool} (I : Inv X pins σ H s) (q : Q (.bl k) H) (e : k = k') : EP X pins σ Q (.bool k') s := by
  subst e
  exact ⟨.bl k, H, I, rfl, q⟩
theorem op_eq : OpR X (compareOp .Eq) rEq := by
  intro pins s σ H x y v u Q I rx ry h
  obtain ⟨hs, q⟩ := h
  cases x with
  | non =>
    cases rx
    cases y with
    | non => cases ry; exact PySem.EqNone.eq_none_none (fin_bl I q (by simp))
    | bl j => cases ry; exact PySem.EqNone.eq_none_bool (fin_bl I q (by simp))
    | int j => obtain ⟨t', rfl⟩ := ry; exact PySem.EqNone.eq_none_int (fin_bl I q (by simp))
    | str j => obtain ⟨t', rfl⟩ := ry; exact PySem.EqNone.eq_none_str (fin_bl I q (by simp))
    | _ => exact absurd (show false = true from hs) Bool.false_ne_true
  | bl i =>
    cases rx
    cases y with
    | non => cases ry; exact PySem.EqNone.eq_bool_none (fin_bl I q (by simp))
    | bl j => cases ry; exact eq_bool (fin_bl I q dec_bl)
    | str j => obtain ⟨t', rfl⟩ := ry; exact PySem.EqMixed.eq_bool_str (fin_bl I q (by simp))
    | _ => exact absurd (show false = true from hs) Bool.false_ne_true
  | int i =>
    obtain ⟨t, rfl⟩ := rx
    cases y with
    | non => cases ry; exact PySem.EqNone.eq_int_none (fin_bl I q (by simp))
    | int j => obtain ⟨t', rfl⟩ := ry; exact eq_int (fin_bl I q dec_int)
    | str j => obtain ⟨t', rfl⟩ := ry; exact PySem.EqMixed.eq_int_str (fin_bl I q (by simp))
    | _ => exact absurd (show false = true from hs) Bool.false_ne_true
  | str i =>
    obtain ⟨t, rfl⟩ := rx
    cases y with
    | non => cases ry; exact PySem.EqNone.eq_str_none (fin_bl I q (by simp))
    | bl j => cases ry; exact PySem.EqMixed.eq_str_bool (fin_bl I q (by simp))
    | int j => obtain ⟨t', rfl⟩ := ry; exact PySem.EqMixed.eq_str_int (fin_bl I q (by simp))
    | str j => obtain ⟨t', rfl⟩ := ry; exact eq_str (fin_bl I q dec_str)
    | _ => exact absurd (show false = true from hs) Bool.false_ne_true
  | byt i =>
    obtain ⟨t, rfl⟩ := rx
    cases y with
    | byt j => obtain ⟨t', rfl⟩ := ry; exact PySem.W.eq_bytes (fin_bl I q dec_byt)
    | _ => exact absurd (show false = true from hs) Bool.false_ne_true
  | _ => cases y <;> exact absurd (show false = true from hs) Bool.false_ne_true
theorem op_ne : OpR X (compareOp .NotEq) rNe := by
  intro pins s σ H x y v u Q I rx ry h
  obtain ⟨hs, q⟩ := h
  cases x with
  | non =>
    cases rx
    cases y with
    | non => cases ry; exact PySem.EqNone.ne_none_none (fin_bl I q (by simp))
    | bl j => cases ry; exact PySem.EqNone.ne_none_bool (fin_bl I q (by simp))
    | int j => obtain ⟨t', rfl⟩ := ry; exact PySem.EqNone.ne_none_int (fin_bl I q (by simp))
    | str j => obtain ⟨t', rfl⟩ := ry; exact PySem.EqNone.ne_none_str (fin_bl I q (by simp))
    | _ => exact absurd (show false = true from hs) Bool.false_ne_true
  | bl i =>
    cases rx
    cases y with
    | non => cases ry; exact PySem.EqNone.ne_bool_none (fin_bl I q (by simp))
    | bl j => cases ry; exact ne_bool (fin_bl I q (congrArg not dec_bl))
    | str j => obtain ⟨t', rfl⟩ := ry; exact PySem.EqMixed.ne_bool_str (fin_bl I q (by simp))
    | _ => exact absurd (show false = true from hs) Bool.false_ne_true
  | int i =>
    obtain ⟨t, rfl⟩ := rx
    cases y with
    | non => cases ry; exact PySem.EqNone.ne_int_none (fin_bl I q (by simp))
    | int j => obtain ⟨t', rfl⟩ := ry; exact ne_int (fin_bl I q (congrArg not dec_int))
    | str j => obtain ⟨t', rfl⟩ := ry; exact PySem.EqMixed.ne_int_str (fin_bl I q (by simp))
    | _ => exact absurd (show false = true from hs) Bool.false_ne_true
  | str i =>
    obtain ⟨t, rfl⟩ := rx
    cases y with
    | non => cases ry; exact PySem.EqNone.ne_str_none (fin_bl I q (by simp))
    | bl j => cases ry; exact PySem.EqMixed.ne_str_bool (fin_bl I q (by simp))
    | int j => obtain ⟨t', rfl⟩ := ry; exact PySem.EqMixed.ne_str_int (fin_bl I q (by simp))
    | str j => obtain ⟨t', rfl⟩ := ry; exact ne_str (fin_bl I q (congrArg not dec_str))
    | _ => exact absurd (show false = true from hs) Bool.false_ne_true
  | byt i =>
    obtain ⟨t, rfl⟩ := rx
    cases y with
    | byt j => obtain ⟨t', rfl⟩ := ry; exact PySem.W.ne_bytes (fin_bl I q (congrArg not dec_byt))
    | _ => exact absurd (show false = true from hs) Bool.false_ne_true
  | _ => cases y <;> exact absurd (show false = true from hs) Bool.false_ne_true

theorem op_lt : OpR X (compareOp .Lt) (rI0 fun i j => .bl (decide (i < j))) := opB0 fun _ _ _ _ _ _ _ q => lt_int q
theorem op_gt : OpR X (compareOp .Gt) (rI0 fun i j => .bl (decide (j < i))) := opB0 fun _ _ _ _ _ _ _ q => gt_int q
theorem op_notN : OpR X (compareOp .IsNot) (fun x y H Q => y = .non ∧ Q (.bl (!decide (x = .non))) H) := by
  intro pins s σ H x y v u Q I rx ry h
  obtain ⟨rfl, q⟩ := h
  cases ry
  refine isnot_none_gen (fin_bl I q ?_)
  cases x <;> first
    | (cases rx; rfl)
    | (obtain ⟨t, rfl⟩ := rx; rfl)

/-- two rules for one operation: by cases -/
theorem OpR.or {f : Value → Value → Sem Value} {r r' : R2} (h : OpR X f r) (h' : OpR X f r') : OpR X f (fun x y H Q => r x y H Q ∨ r' x y H Q) := by
  intro pins s σ H x y v u Q I rx ry q
  rcases q with q | q
  · exact h pins s σ H x y v u Q I rx ry q
  · exact h' pins s σ H x y v u Q I rx ry q

theorem nomark (b : Expr) {op : CmpOp} (h : op ≠ .In := by decide) (h2 : op ≠ .NotIn := by decide) : behindInMarks op b = false := by
  have e1 : (op == CmpOp.In) = false := by cases op <;> first | rfl | exact absurd rfl h
  have e2 : (op == CmpOp.NotIn) = false := by cases op <;> first | rfl | exact absurd rfl h2
  cases b <;> simp [behindInMarks, e1, e2]
/-- a comparison as a value; hm: nomark b, or (for in, not in) by with_unfolding_all rfl -/
theorem pe_cmpR {op : CmpOp} {r : R2} (ho : OpR X (compareOp op) r) (ha : PE X a ta) (hb : PE X b tb) (hm : behindInMarks op b = false) : PE X (.Compare a [op] [b] pos) (tOp r ta tb) := by
  intro pins s σ H Q I h
  exact wpAny_Compare1 (binT ha hb I h fun v u s2 x y H2 I2 rx ry q => ho pins s2 σ H2 x y v u Q I2 rx ry q) hm
/-- a reading of a value as a test -/
def tTest (t : TE) : TT := fun σ H Q => t σ H fun x H' => ∃ k, x = .bl k ∧ Q k H'
theorem pt_cmpR {op : CmpOp} {r : R2} (ho : OpR X (compareOp op) r) (ha : PE X a ta) (hb : PE X b tb) (hm : behindInMarks op b = false) : PT X (.Compare a [op] [b] pos) (tTest (tOp r ta tb)) := by
  intro pins s σ H Q I h
  refine wpAny_isTrue_Compare1 (thn (ha pins s σ H _ I h) fun v s1 ⟨x, H1, I1, r1, q1⟩ => thn (hb pins s1 σ H1 _ I1 q1) fun u s2 ⟨y, H2, I2, r2, q2⟩ =>
    thn (ho pins s2 σ H2 x y v u _ I2 r1 r2 q2) fun c s3 ⟨z, H3, I3, r3, k, e, q3⟩ => ?_) hm
  subst e
  cases r3
  exact wpAny_truthy_bool ⟨H3, I3, q3⟩
theorem line63 : (sizeLine : Nat) < 2 ^ 63 := by rw [sizeLine_eq]; decide
theorem op_add_str : OpR X (binaryOp .Add) (fun x y H Q => ∃ i j, x = .str i ∧ y = .str j ∧ i.length + j.length ≤ sizeLine ∧ Q (.str (i ++ j)) H) := by
  intro pins s σ H x y v u Q I rx ry h
  obtain ⟨i, j, rfl, rfl, hz, q⟩ := h
  obtain ⟨t, rfl⟩ := rx
  obtain ⟨t', rfl⟩ := ry
  exact add_str (fun t' tk => ⟨.str (i ++ j), H, I.tok _, ⟨_, rfl⟩, q⟩) hz
/-! ### scalar builtins, by CallR -/
theorem vals1 {x : V} {us : List Value} (r : Vals [x] us) : ∃ u, us = [u] ∧ RelV x u := by
  cases r with
  | cons r1 r2 => cases r2; exact ⟨_, rfl, r1⟩
theorem call_int1 : CallR X (.type "int") (fun xs H Q => (∃ i, xs = [.int i] ∧ Q (.int i) H) ∨ ∃ k, xs = [.bl k] ∧ Q (.int (if k then 1 else 0)) H) := by
  intro pins s σ H xs us Q I r h
  rcases h with ⟨i, rfl, q⟩ | ⟨k, rfl, q⟩
  · obtain ⟨u, rfl, t, rfl⟩ := vals1 r
    exact call_int_int ⟨.int i, H, I, ⟨_, rfl⟩, q⟩
  · obtain ⟨u, rfl, r1⟩ := vals1 r
    cases r1
    exact call_int_bool ⟨.int (if k then 1 else 0), H, I.tok _, ⟨_, rfl⟩, q⟩
end
end L2

namespace L2
open PySem PySem.Spec PyProof.Rows

/-! ### an instance, its attributes a map -/
structure ObjM (h : Heap) (x dx C : Addr) (mA : Str → Option Value) : Prop where
  obj : h.get? x = some (PySem.W.instObj C dx)
  ns : h.Ns1 dx mA
  ne : dx ≠ x

section
variable {prog : Program} {w : World} {A : Around} {E : Value → Shared → Prop} {s : Shared} {K : PySem.W.Frag} {x dx C f : Addr} {mA : Str → Option Value} {name : Str} {v : Value}

end

section
variable {P : Program} {w : World} {H H' : Hp} {h h' : Heap} {a C dx : Addr} {fs fs' : List (Str × V)}
end

/-! ### what of the text a class must have -/
structure Cls (K : PySem.W.Frag) (C : Addr) : Prop where
  pg : PySem.W.plainGet K C Str.empty = true
  hd : PySem.W.hasDictIn K C = true
  po : PySem.W.plainOver K C = true
  sa : PySem.W.findIn K (.ref C) "__setattr__" = some (some (.builtin "object.__setattr__"))
theorem Cls.get {K : PySem.W.Frag} {C : Addr} (c : Cls K C) (f : Str) : PySem.W.plainGet K C f = true := c.pg
/-- a constant of the class -/
structure Con (K : PySem.W.Frag) (C : Addr) (f : Str) (v : V) (u : Value) : Prop where
  at_ : PySem.W.findIn K (.ref C) f = some (some u)
  rel : RelV v u
  get : PySem.W.specialIn K u "__get__" = some none
  cp : PySem.W.copiedNames.contains f = false
/-- a method: a plain def of the class or of one above it -/
structure Meth (K : PySem.W.Frag) (C : Addr) (m : Str) (f : Addr) : Prop where
  at_ : PySem.W.findIn K (.ref C) m = some (some (.ref f))
  fn : PySem.W.isFn K (.ref f) = true
  kp : PySem.W.keepIn K (.ref f) = true

section
variable {X : Cx} {pins : List (Addr × Obj)} {σ : St} {H : Hp} {s : Shared} {a C dx : Addr} {fs : List (Str × V)} {f : Str} {v : V} {A : Around} {E : Value → Shared → Prop}

/-- a new instance, tracked, without attributes -/
theorem Inv.made (I : Inv X pins σ H s) : Inv X pins σ (upd (upd H s.heap.objs.size (.own (s.heap.objs.size + 1))) (s.heap.objs.size + 1) (.ins C s.heap.objs.size []))
    { s with heap := (s.heap.push PySem.W.emptyDict).push (PySem.W.instObj C s.heap.objs.size) } := by
  have e1 : (s.heap.push PySem.W.emptyDict).get? s.heap.objs.size = some PySem.W.emptyDict := Heap.get?_push_size s.heap rfl
  have e2 : ((s.heap.push PySem.W.emptyDict).push (PySem.W.instObj C s.heap.objs.size)).get? (s.heap.objs.size + 1) = some (PySem.W.instObj C s.heap.objs.size) := by
    have := Heap.get?_push_size (s.heap.push PySem.W.emptyDict) (o := PySem.W.instObj C s.heap.objs.size) rfl
    rwa [Heap.size_push] at this
  have e3 : (s.heap.push PySem.W.emptyDict).Ns s.heap.objs.size (fun _ => none) := ⟨PySem.W.emptyDict, #[], _, e1, rfl, (fun e he => absurd he (by simp)), fun _ => rfl⟩
  have I1 := I.laid (a := s.heap.objs.size) (o := .own (s.heap.objs.size + 1)) (h' := s.heap.push PySem.W.emptyDict) (t' := s.toks) (fun b u q => Heap.get?_push_of_some _ q) (Nat.le_refl _) ⟨_, e1⟩
  refine I1.laid (a := s.heap.objs.size + 1) (o := .ins C s.heap.objs.size []) (t' := s.toks) (fun b u q => Heap.get?_push_of_some _ q) (Nat.le_of_eq (Heap.size_push _ _)) ?_
  have ne : s.heap.objs.size ≠ s.heap.objs.size + 1 := Nat.ne_of_lt (Nat.lt_succ_self _)
  refine ⟨by rw [upd_ne ne, upd_same], Nat.zero_le _, ne, e2, fun _ => none, (Heap.Ns1.of_empty e3).at fun o q => Heap.get?_push_of_some _ q, fun _ => True.intro, fun y hy => absurd rfl hy⟩

end

section
variable {X : Cx} {o e value : Expr} {f : Str} {pos pos' tpos : Pos} {ta tv : TE}
end

/-! ### isinstance -/
section
variable {X : Cx} {pins : List (Addr × Obj)} {σ : St} {H : Hp} {s : Shared} {A : Around} {E : Value → Shared → Prop} {Q : Value → Shared → Prop} {c : Value} {b : Bool}
/-- the type of a value, as the fragment's deciders take it; for an instance its class -/
inductive TyOf (K : PySem.W.Frag) (H : Hp) : V → Value → Prop where
  | non : TyOf K H .non (.type "NoneType")
  | bl (x : Bool) : TyOf K H (.bl x) (.type "bool")
  | int (i : Int) : TyOf K H (.int i) (.type "int")
  | str (x : Str) : TyOf K H (.str x) (.type "str")
  | flt (x : UInt64) : TyOf K H (.flt x) (.type "float")
  | lst {a : Addr} {xs : List V} (e : H a = some (.lst xs)) : TyOf K H (.ref a) (.type "list")
  | frz {a : Addr} {o : Obj} {xs : List V} (e : H a = some (.frz o (.lst xs))) : TyOf K H (.ref a) (.type "list")
  | tup {a : Addr} {xs : List V} (e : H a = some (.tup xs)) : TyOf K H (.ref a) (.type "tuple")
  | dK {a : Addr} {kvs : List (Key × V)} (e : H a = some (.dK kvs)) : TyOf K H (.ref a) (.type "dict")
  | dT {a : Addr} {kvs : List (List Key × V)} (e : H a = some (.dT kvs)) : TyOf K H (.ref a) (.type "dict")
  | ins {a C dx : Addr} {fs : List (Str × V)} (e : H a = some (.ins C dx fs)) (cl : Cls K C) (ha : PySem.W.findIn K (.ref C) "__class__" = some (some (.builtin "object.__class__")))
      (hn : PySem.W.specialIn K (.builtin "object.__class__") "__get__" = some (some (.builtin "getset_descriptor.__get__"))) (htk : PySem.W.takesIn K (.builtin "object.__class__") = some true)
      (hm : PySem.W.mroIn K C (.type "object") = some true) : TyOf K H (.ref a) (.ref C)
end
end L2

namespace L2
open PySem PySem.Spec PyProof.Rows

/-! ### room -/
structure Room (k : Nat) (A : Around) : Prop where
  hd : A.handled = none
  dp : A.depth + 3 * k + 5 < recursionLimit
  un : A.units + 16 * k + 200 < cLine
theorem Room.mono {j k : Nat} {A : Around} (r : Room k A) (h : j ≤ k) : Room j A := ⟨r.hd, by have := r.dp; omega, by have := r.un; omega⟩
theorem Room.deeper {k : Nat} {A : Around} (r : Room (k + 1) A) (env : Env) : Room k (A.deeper env) :=
  ⟨r.hd, by have := r.dp; show A.depth + 1 + 3 * k + 5 < _; omega, by have := r.un; show A.units + 3 + 16 * k + 200 < _; omega⟩
theorem Room.in1 {k : Nat} {A : Around} (r : Room (k + 1) A) : Room k A.in1 :=
  ⟨r.hd, by have := r.dp; show A.depth + 3 * k + 5 < _; omega, by have := r.un; show A.units + 1 + 16 * k + 200 < _; omega⟩
theorem Room.depth {k : Nat} {A : Around} (r : Room k A) : A.depth < recursionLimit := by have := r.dp; omega
theorem Room.units {k : Nat} {A : Around} (r : Room k A) : A.units + 64 < cLine := by have := r.un; omega
/-! ### argument lists and displays -/
def tNil : TA := fun _ H Q => Q [] H
def tCons (ta : TE) (tr : TA) : TA := fun σ H Q => ta σ H fun x H1 => tr σ H1 fun xs H2 => Q (x :: xs) H2
section
variable {X : Cx} {e : Expr} {es : List Expr} {te : TE} {t : TA} {pos : Pos}
theorem pa_nil : PA X [] tNil := fun _ _ _ _ H Q I h => Calls.spliced_nil ⟨[], H, I, .nil, h⟩
theorem pa_cons (ha : PE X e te) (hr : PA X es t) (hs : starEach (e :: es) X.env = (false, eval e X.env) :: starEach es X.env := by rfl) : PA X (e :: es) (tCons te t) := by
  intro pos pins s σ H Q I h
  rw [hs]
  show wpAny _ _ (spliced ((false, eval e X.env) :: backTo pos (starEach es X.env))) _ _ s
  refine Calls.spliced_cons (thn (ha pins s σ H _ I h) fun u s1 ⟨x, H1, I1, r1, q1⟩ => ?_)
  exact thn (hr pos pins s1 σ H1 _ I1 q1) fun us s2 ⟨xs, H2, I2, r2, q2⟩ => ⟨x :: xs, H2, I2, .cons r1 r2, q2⟩

/-- a tuple, a list of written items -/
def tTup (t : TA) : TE := fun σ H Q => t σ H fun xs H1 => xs.length ≤ sizeLine ∧ ∀ p, H1 p = none → Q (.ref p) (upd H1 p (.tup xs))
def tLst (t : TA) : TE := fun σ H Q => t σ H fun xs H1 => xs.length ≤ sizeLine ∧ ∀ p, H1 p = none → Q (.ref p) (upd H1 p (.lst xs))
theorem pe_tup {x1} (h : PA X es t) : PE X (.Tuple es x1 pos) (tTup t) := by
  intro pins s σ H Q I hq
  refine wpAny_Tuple_spliced (thn (h pos pins s σ H _ I hq) fun us s1 ⟨xs, H1, I1, r, z, q⟩ => ⟨by rw [← r.length]; exact z, ?_⟩)
  have hf : H1 s1.heap.objs.size = none := I1.hok.fresh (Nat.le_refl _)
  refine ⟨.ref s1.heap.objs.size, upd H1 s1.heap.objs.size (.tup xs), I1.laid (t' := s1.toks) (fun b u e => Heap.get?_push_of_some _ e) (Nat.le_refl _) ?_, rfl, q _ hf⟩
  exact ⟨z, us, r, ⟨_, Heap.get?_push_size _ rfl, rfl, _, rfl⟩⟩
theorem pe_lst (h : PA X es t) : PE X (.List es pos) (tLst t) := by
  intro pins s σ H Q I hq
  refine wpAny_List_spliced (thn (h pos pins s σ H _ I hq) fun us s1 ⟨xs, H1, I1, r, z, q⟩ => ⟨by rw [← r.length]; exact z, ?_⟩)
  have hf : H1 s1.heap.objs.size = none := I1.hok.fresh (Nat.le_refl _)
  refine ⟨.ref s1.heap.objs.size, upd H1 s1.heap.objs.size (.lst xs), I1.laid (t' := s1.toks) (fun b u e => Heap.get?_push_of_some _ e) (Nat.le_refl _) ?_, rfl, q _ hf⟩
  exact ⟨z, us, 0, r, Heap.get?_push_size _ rfl⟩
end

/-! ### what a def promises -/
/-- a def's promise: the bound arguments in the parameters' order, the heap, the wanted end, the wanted exception -/
abbrev Sp := List V → Hp → VK → XK → Prop
/-- how an exception lies behind a call (file 08 gives it): the callers' frames, abstract heap and state ahead of the call, the wish, the exception, the state -/
abbrev CXT := List Env → Hp → Shared → XK → Value → Shared → Prop

/-- the state at a call -/
structure Env0 (P : Program) (w : World) (K : PySem.W.Frag) (mg : Str → Option Value) (base : Heap) (A : Around) (outer : List Env) (s : Shared) (H : Hp) : Prop where
  frames : A.frames = some outer
  mod : Mod K mg base
  bs : ∀ b o, base.get? b = some o → s.heap.get? b = some o ∧ H b = none
  bsz : base.objs.size ≤ s.heap.objs.size
  funs : s.heap.FunFrames base outer
  frf : ∀ b ∈ frs outer, H b = none
  hok : HOk P w H s.heap
  bare : AllBare s.gens
/-- a call's end -/
def CE (outer : List Env) (P : Program) (w : World) (H : Hp) (s : Shared) (Q : VK) (u : Value) (s' : Shared) : Prop :=
  ∃ v H', s'.os = s.os ∧ AllBare s'.gens ∧ Un (frs outer) [] H H' s.heap s'.heap ∧ HOk P w H' s'.heap ∧ RelV v u ∧ Q v H'
def CR (CX : CXT) (outer : List Env) (P : Program) (w : World) (H : Hp) (s : Shared) (Q : VK) (E : XK) (r : Result) (s' : Shared) : Prop :=
  match r with
  | .ok (.ret u) => CE outer P w H s Q u s'
  | .ok _ => False
  | .error e => CX outer H s E e s'
structure FnOk (P : Program) (w : World) (K : PySem.W.Frag) (mg : Str → Option Value) (base : Heap) (CX : CXT) (k : Nat) (f : Addr) (fd : FuncData) (ps : List Str) (sp : Sp) : Prop where
  len : ∀ vs H Q E, sp vs H Q E → vs.length = ps.length
  run : ∀ (A : Around) (outer : List Env) (s : Shared) (H : Hp) (args : Args) (us : List Value) (vs : List V) (Q : VK) (E : XK), Room k A → Env0 P w K mg base A outer s H → BindsTo s fd args (ps.zip us) → Vals vs us → sp vs H Q E →
    codeAny (model P w) A (.call (.ref f) args) (CR CX outer P w H s Q E) s
theorem FnOk.mono {P : Program} {w : World} {K : PySem.W.Frag} {mg : Str → Option Value} {base : Heap} {CX : CXT} {j k : Nat} {f : Addr} {fd : FuncData} {ps : List Str} {sp : Sp} (F : FnOk P w K mg base CX j f fd ps sp) (h : j ≤ k) :
    FnOk P w K mg base CX k f fd ps sp := ⟨F.len, fun A outer s H args us vs Q E hr => F.run A outer s H args us vs Q E (hr.mono h)⟩
/-- a weaker promise -/
theorem FnOk.imp {P : Program} {w : World} {K : PySem.W.Frag} {mg : Str → Option Value} {base : Heap} {CX : CXT} {k : Nat} {f : Addr} {fd : FuncData} {ps : List Str} {sp sp' : Sp} (F : FnOk P w K mg base CX k f fd ps sp)
    (h : ∀ vs H Q E, sp' vs H Q E → sp vs H Q E) : FnOk P w K mg base CX k f fd ps sp' :=
  ⟨fun vs H Q E q => F.len vs H Q E (h _ _ _ _ q), fun A outer s H args us vs Q E hr he hb hv hs => F.run A outer s H args us vs Q E hr he hb hv (h _ _ _ _ hs)⟩

theorem Env0.in1 {P : Program} {w : World} {K : PySem.W.Frag} {mg : Str → Option Value} {base : Heap} {A : Around} {outer : List Env} {s : Shared} {H : Hp} (e : Env0 P w K mg base A outer s H) :
    Env0 P w K mg base A.in1 outer s H := ⟨e.frames, e.mod, e.bs, e.bsz, e.funs, e.frf, e.hok, e.bare⟩

section
variable {X : Cx} {pins : List (Addr × Obj)} {σ : St} {H : Hp} {s s' : Shared}
/-- from a body: what a callee wants -/
theorem Inv.env0 (I : Inv X pins σ H s) : Env0 X.prog X.w X.K X.mg X.base X.A X.stack s H :=
  ⟨I.ok.frames, I.ok.mod, I.bs, Nat.le_trans I.ok.bsz I.sz, I.stack, I.stkFree, I.hok, I.bare⟩
/-- behind a call -/
theorem Inv.after {Q : VK} {u : Value} (I : Inv X pins σ H s) (h : CE X.stack X.prog X.w H s Q u s') : EP X pins σ Q u s' := by
  obtain ⟨v, H', os, bare, un, hok, r, q⟩ := h
  obtain ⟨hh, g, d, t, os'⟩ := s'
  obtain rfl : os' = s.os := os
  exact ⟨v, H', I.call (h' := hh) (g' := g) (d' := d) (t' := t) (ch := []) un hok bare (fun b z => absurd z (by simp)), r, q⟩
end

/-- how the parameters are bound: us the positional arguments, kw the keywords' values by name, ds the defaults that fill up -/
def Binds (K : PySem.W.Frag) (fd : FuncData) (ps : List Str) (ds : List Value) : Prop :=
  ∀ (s : Shared) (us : List Value), K.In s.heap → (us ++ ds).length = ps.length → BindsTo s fd ⟨us, []⟩ (ps.zip (us ++ ds))
/-- every parameter is given -/
theorem Binds.all {K : PySem.W.Frag} {fd : FuncData} {ps : List Str} (h : ∀ us : List Value, us.length = ps.length → bindArgs fd ⟨us, []⟩ = pure (ps.zip us)) : Binds K fd ps [] := fun s us _ hl => by
  rw [List.append_nil] at hl ⊢
  exact .of_eq (h us hl)

section
variable {X : Cx} {CX : CXT} {k : Nat} {f C : Addr} {fd : FuncData} {ps : List Str} {sp : Sp} {dvs : List V} {ds : List Value} {E : XK} {x m : Str} {p pos apos : Pos} {e o : Expr} {es : List Expr} {ta : TE} {t : TA}

/-- what a class must have to be made -/
structure Mk (K : PySem.W.Frag) (C f : Addr) : Prop where
  makes : PySem.W.makesIn K C = true
  init : PySem.W.findIn K (.ref C) "__init__" = some (some (.ref f))
  fn : PySem.W.isFn K (.ref f) = true
  kp : PySem.W.keepIn K (.ref C) = true

end

section
variable {X : Cx} {CX : CXT} {k : Nat} {f C : Addr} {fd : FuncData} {ps ks : List Str} {sp : Sp} {E : XK} {x m : Str} {p pos apos kpos : Pos} {e o : Expr} {es : List Expr} {kws : List Keyword} {te ta : TE} {t tk : TA} {nm : Option Str}
/-- how a call with keywords binds: g puts the positional values us and the keywords' values ws (names ks) in the parameters' order, defaults among them -/
structure KBinds (K : PySem.W.Frag) (fd : FuncData) (ps ks : List Str) (g : List Value → List Value → List Value) (gV : List V → List V → List V) : Prop where
  to : ∀ (s : Shared) (us ws : List Value), K.In s.heap → (g us ws).length = ps.length → BindsTo s fd ⟨us, ks.zip ws⟩ (ps.zip (g us ws))
  rel : ∀ {vs : List V} {us : List Value} {zs : List V} {ws : List Value}, Vals vs us → Vals zs ws → Vals (gV vs zs) (g us ws)
variable {g : List Value → List Value → List Value} {gV : List V → List V → List V}
end

/-! ### a def's body keeps its promise -/
/-- names: the parameters first -/
structure FnScope (N P : List Str) (sc : Scope) : Prop where
  kind : sc.kind = .function
  co : sc.isCoroutine = false
  gen : sc.isGenerator = false
  nd : N.Nodup
  pre : N.take P.length = P
  par : ∀ x ∈ P, sc.names.lookup x = some .local ∨ sc.names.lookup x = some .cell
  nofree : ∀ y ∈ sc.names, y.2 ≠ .free

theorem bindL_out {kindOf : Str → Option NameKind} {x : Str} : ∀ {binds : List (Str × Value)} {m : Str → Option Value}, (∀ v, (x, v) ∉ binds) → bindL kindOf binds m x = m x
  | [], _, _ => rfl
  | (n, v) :: r, m, h => by
    unfold bindL
    rw [bindL_out fun w hw => h w (List.mem_cons_of_mem _ hw)]
    split
    · have : x ≠ n := by rintro rfl; exact h v List.mem_cons_self
      simp [this]
    · rfl
theorem bindC_out {kindOf : Str → Option NameKind} {x : Str} : ∀ {binds : List (Str × Value)} {m : Str → Option Value}, (∀ v, (x, v) ∉ binds) → bindC kindOf binds m x = m x
  | [], _, _ => rfl
  | (n, v) :: r, m, h => by
    unfold bindC
    rw [bindC_out fun w hw => h w (List.mem_cons_of_mem _ hw)]
    split
    · rfl
    · have : x ≠ n := by rintro rfl; exact h v List.mem_cons_self
      simp [this]
theorem bindL_get {kindOf : Str → Option NameKind} {x : Str} {v : Value} : ∀ {P : List Str} {vs : List Value} {i : Nat} {m : Str → Option Value}, P.Nodup → P[i]? = some x → vs[i]? = some v → kindOf x = some .local →
    bindL kindOf (P.zip vs) m x = some v
  | [], _, _, _, _, h, _, _ => by simp at h
  | _ :: _, [], _, _, _, _, h, _ => by simp at h
  | p :: P, w :: vs, 0, m, nd, h1, h2, hk => by
    simp at h1 h2; subst h1; subst h2
    show bindL kindOf ((p, w) :: P.zip vs) m p = _
    unfold bindL
    rw [bindL_out fun v hv => (List.nodup_cons.mp nd).1 (List.of_mem_zip hv).1, if_pos hk]
    simp
  | p :: P, w :: vs, i + 1, m, nd, h1, h2, hk => by
    show bindL kindOf ((p, w) :: P.zip vs) m x = _
    unfold bindL
    exact bindL_get (i := i) (List.nodup_cons.mp nd).2 (by simpa using h1) (by simpa using h2) hk
theorem bindC_get {kindOf : Str → Option NameKind} {x : Str} {v : Value} : ∀ {P : List Str} {vs : List Value} {i : Nat} {m : Str → Option Value}, P.Nodup → P[i]? = some x → vs[i]? = some v → kindOf x ≠ some .local →
    bindC kindOf (P.zip vs) m x = some v
  | [], _, _, _, _, h, _, _ => by simp at h
  | _ :: _, [], _, _, _, _, h, _ => by simp at h
  | p :: P, w :: vs, 0, m, nd, h1, h2, hk => by
    simp at h1 h2; subst h1; subst h2
    show bindC kindOf ((p, w) :: P.zip vs) m p = _
    unfold bindC
    rw [bindC_out fun v hv => (List.nodup_cons.mp nd).1 (List.of_mem_zip hv).1, if_neg hk]
    simp
  | p :: P, w :: vs, i + 1, m, nd, h1, h2, hk => by
    show bindC kindOf ((p, w) :: P.zip vs) m x = _
    unfold bindC
    exact bindC_get (i := i) (List.nodup_cons.mp nd).2 (by simpa using h1) (by simpa using h2) hk

/-- the names' values at the entry -/
def start (N : List Str) (vs : List V) : St := vs.map some ++ List.replicate (N.length - vs.length) none

/-- the context of a def's body, at its entry; an exception leaves the frame, then lies as CX says -/
def cxOf (CX : CXT) (P : Program) (w : World) (K : PySem.W.Frag) (mg : Str → Option Value) (base : Heap) (N : List Str) (qual : Str) (scope : Scope) (f : Addr) (cd : Value) (A : Around) (outer : List Env) (s : Shared) (H : Hp) (E : XK) : Cx where
  prog := P
  w := w
  K := K
  mg := mg
  base := base
  A := A.deeper (envOfC qual scope s.heap.objs.size f cd)
  N := N
  s₀ := s
  H₀ := H
  env := envOfC qual scope s.heap.objs.size f cd
  outer := outer
  stack := envOfC qual scope s.heap.objs.size f cd :: outer
  ex := []
  calm := true
  fn := fun _ => true
  pn := []
  xe := fun e s' => wpAny (model P w) (A.deeper (envOfC qual scope s.heap.objs.size f cd)) (leaving (envOfC qual scope s.heap.objs.size f cd) e) (fun _ s'' => CX outer H s E e s'') (fun e' s'' => CX outer H s E e' s'') s'

theorem cell_has {sc : Scope} {n : Nat} {x : Str} (h : sc.names.lookup x = some .cell) : ∃ c, (cellsFrom n sc.names []).lookup x = some c := by
  have q := PySem.W.cellsFrom_some sc.names n [] (.inl h)
  exact Option.isSome_iff_exists.mp q

theorem inv_start {CX : CXT} {P : Program} {w : World} {K : PySem.W.Frag} {mg : Str → Option Value} {base : Heap} {N ps : List Str} {qual : Str} {scope : Scope} {f : Addr} {cd : Value} {A : Around} {outer : List Env} {s s1 : Shared} {H : Hp} {E : XK} {us : List Value} {vs : List V}
    (S : FnScope N ps scope) (hd : A.handled = none) (e0 : Env0 P w K mg base A outer s H) (hl : vs.length = ps.length) (r : Vals vs us)
    (x : InCallC s s.heap.objs.size (bindL (envOfC qual scope s.heap.objs.size f cd).kindOf (ps.zip us) fun _ => none) (cellsFrom (s.heap.objs.size + 1) scope.names []) (bindC (envOfC qual scope s.heap.objs.size f cd).kindOf (ps.zip us) fun _ => none) s1) :
    Inv (cxOf CX P w K mg base N qual scope f cd A outer s H E) [] (start N vs) H s1 := by
  have hpl : ps.length ≤ N.length := by have := congrArg List.length S.pre; rw [List.length_take] at this; omega
  obtain ⟨h1, tk, rfl, hk⟩ := x.done
  have noA : ∀ b : Addr, b ∉ (cxOf CX P w K mg base N qual scope f cd A outer s H E).ex := fun b z => absurd (show b ∈ ([] : List Addr) from z) (by simp)
  refine ⟨⟨e0.mod, S.kind, rfl, rfl, Nat.le_refl _, fun y z c h1 h2 => ?_, fun y hy => ?_, fun y c _ h => ?_, fun _ => hd, Around.frames_deeper e0.frames, .inr ⟨rfl, rfl⟩, fun b z => absurd z (noA b), e0.bs, e0.bsz, fun b _ _ => noA b, fun b z => absurd z (noA b), e0.funs, e0.frf⟩,
    rfl, e0.bare, Un.kept hk, ⟨_, x.toInCall.ns, fun i y v h1 h2 h3 => ?_⟩, fun y c h => ⟨_, x.cell y c h⟩, e0.hok.fresh (Nat.le_refl _), fun y c h => ?_, fun p hp => absurd (show p ∈ ([] : List (Addr × Obj)) from hp) (by simp), e0.hok.kept hk, ?_⟩
  · exact name_of_addr x.apart (PySem.mem_of_lookup h1) (PySem.mem_of_lookup h2)
  · have hy : scope.names.lookup y = some .cell ∨ scope.names.lookup y = some .free := hy
    rcases hy with hy | hy
    · exact cell_has hy
    · exact absurd rfl (S.nofree _ (PySem.mem_of_lookup hy))
  · exact Nat.le_of_lt (x.above y c (PySem.mem_of_lookup h))
  · have hi : i < vs.length := by
      unfold start at h2
      by_cases hi : i < vs.length
      · exact hi
      · rw [List.getElem?_append_right (by simpa using hi)] at h2
        rw [List.getElem?_replicate] at h2
        split at h2 <;> cases h2
    have ha : vs[i]? = some v := by
      unfold start at h2
      rw [List.getElem?_append_left (by simpa using hi), List.getElem?_map] at h2
      cases e : vs[i]? with
      | none => rw [e] at h2; cases h2
      | some a => rw [e] at h2; cases h2; rfl
    obtain ⟨u, hu, rv⟩ := r.get ha
    have hp : ps[i]? = some y := by
      rw [← S.pre, List.getElem?_take_of_lt (by omega)]; exact h1
    have ndP : ps.Nodup := by rw [← S.pre]; exact S.nd.sublist (List.take_sublist _ _)
    refine ⟨u, rv, ?_⟩
    rcases S.par y (List.mem_of_getElem? hp) with k | k
    · exact .inl ⟨k, bindL_get ndP hp hu k⟩
    · obtain ⟨c, e⟩ := cell_has (n := s.heap.objs.size + 1) k
      refine .inr ⟨.inl k, c, e, ?_⟩
      have q := x.cell y c e
      rw [bindC_get ndP hp hu (by show scope.names.lookup y ≠ _; rw [k]; decide)] at q
      exact q
  · exact e0.hok.fresh (Nat.le_of_lt (x.above y c (PySem.mem_of_lookup h)))
  · unfold start
    show _ = N.length
    rw [List.length_append, List.length_map, List.length_replicate]
    omega

/-- THE RULE: a def (or a method) of the text, by its body. The body's reading t is chosen for each entry; it is run at the parameters' values -/
theorem fn_of {CX : CXT} {P : Program} {w : World} {K : PySem.W.Frag} {mg : Str → Option Value} {base : Heap} {k : Nat} {f : Addr} {name qual : Str} {params : Arguments} {body : List Stmt} {scope : Scope} {dV kV doc pm cdv ct oc : Value} {an od : Option Addr}
    {osl : Array (Option Value)} {N ps : List Str} {sp : Sp} (lk : K.lookup f = some ⟨oc, od, .func (PySem.W.fnOf name qual params body scope dV kV doc pm an cdv ct), osl⟩) (hcd : PySem.W.codeIn K cdv qual = true) (S : FnScope N ps scope)
    (len : ∀ vs H Q E, sp vs H Q E → vs.length = ps.length)
    (hbody : ∀ (A : Around) (outer : List Env) (s : Shared) (H : Hp) (vs : List V) (Q : VK) (E : XK), Room k (A.deeper (envOfC qual scope s.heap.objs.size f cdv)) → sp vs H Q E →
      ∃ t, PSs (cxOf CX P w K mg base N qual scope f cdv A outer s H E) body t ∧ t { nx := fun _ H' => Q .non H', rt := Q } (start N vs) H) :
    FnOk P w K mg base CX (k + 1) f (PySem.W.fnOf name qual params body scope dV kV doc pm an cdv ct) ps sp := by
  refine ⟨len, fun A outer s H args us vs Q E hr e0 hb r hsp => ?_⟩
  have hl := len _ _ _ _ hsp
  have KX : K.In s.heap := e0.mod.kin.keeps fun b o e => (e0.bs b o e).1
  have lim : s.heap.NoLimit := e0.mod.nolimit.keeps fun b o e => (e0.bs b o e).1
  have hkind : ∀ y ∈ ps.zip us, scope.names.lookup y.1 = some .local ∨ (scope.names.lookup y.1 = some .cell ∧ ((cellsFrom (s.heap.objs.size + 1) scope.names []).lookup y.1).isSome = true) := fun ⟨n, v⟩ hy => by
    rcases S.par n (List.of_mem_zip hy).1 with q | q
    · exact .inl q
    · exact .inr ⟨q, PySem.W.cellsFrom_some _ _ _ (.inl q)⟩
  refine codeAny_call_function hr.depth (KX _ _ lk) rfl S.co S.gen rfl (PySem.W.codeRec_of KX hcd) (hb _ _ _ _ ?_)
  refine wpAny_newFunctionEnv_cells S.kind hkind fun env he s1 x => ?_
  subst he
  refine ⟨lim.keeps x.toInCall.keep, codeAny_func ?_⟩
  obtain ⟨t, ht, hq⟩ := hbody A outer s H vs Q E (hr.deeper _) hsp
  have I : Inv (cxOf CX P w K mg base N qual scope f cdv A outer s H E) [] (start N vs) H s1 := inv_start S hr.hd e0 hl r x
  refine wpAny_mono (ht [] s1 (start N vs) H _ I hq) (fun fl s' hs => ?_) fun e s' hs => hs
  have fin : ∀ {σ' : St} {H' : Hp} {v : V} {u : Value}, Inv (cxOf CX P w K mg base N qual scope f cdv A outer s H E) [] σ' H' s' → RelV v u → Q v H' → CE outer P w H s Q u s' :=
    fun {σ' H' v u} J rv q => ⟨v, H', J.os, J.bare, J.base, J.hok, rv, q⟩
  cases fl with
  | ret u =>
    obtain ⟨v, σ', H', J, rv, q⟩ := hs
    exact fin J rv q
  | next =>
    obtain ⟨σ', H', J, q⟩ := hs
    exact fin (v := V.non) (u := Value.none) J rfl q
  | brk =>
    obtain ⟨_, _, _, q⟩ := hs
    exact False.elim q
  | cont =>
    obtain ⟨_, _, _, q⟩ := hs
    exact False.elim q
end L2

namespace L2
open PySem PySem.Spec PyProof.Rows
section
variable {X : Cx} {x : Str} {p pos : Pos} {e : Expr} {es : List Expr} {t : TA} {id T : String} {r : List V → Hp → VK → Prop}

def tCB (r : List V → Hp → VK → Prop) (t : TA) : TE := fun σ H Q => t σ H fun vs H1 => r vs H1 Q
/-- f(e, ..), f a built-in function -/
theorem pe_callB (hc : CallR X (.builtin id) r) (hg : Gl X x) (hm : X.mg x = none) (hv : bootBuiltins x = some (.builtin id)) (ha : PA X (e :: es) t) (hn : x ≠ "__name__" := by decide) (hdb : (x == ("__debug__" : Str)) = false := by decide)
    (he : starEach (e :: es) X.env = (false, eval e X.env) :: starEach es X.env := by rfl) (hpl : (backTo pos (starEach es X.env)).any (·.1) = false := by rfl) : PE X (.Call (.Name x p) (e :: es) [] pos) (tCB r t) := by
  intro pins s σ H Q I h
  refine wpAny_Call_Name_kw (ld_blt I hg hm hv ?_ hn hdb)
  exact PyProof.Rows.callWith_builtin1 (thn (ha pos pins s σ H _ I h) fun us s1 ⟨vs, H1, I1, r1, q1⟩ => hc pins s1 σ H1 vs us Q I1 r1 q1) he hpl
/-- T(e, ..), T a built-in type -/
theorem pe_callTy (hc : CallR X (.type T) r) (hg : Gl X x) (hm : X.mg x = none) (hv : bootBuiltins x = some (.type T)) (ha : PA X (e :: es) t) (hn : x ≠ "__name__" := by decide) (hdb : (x == ("__debug__" : Str)) = false := by decide)
    (he : starEach (e :: es) X.env = (false, eval e X.env) :: starEach es X.env := by rfl) (hpl : (backTo pos (starEach es X.env)).any (·.1) = false := by rfl) : PE X (.Call (.Name x p) (e :: es) [] pos) (tCB r t) := by
  intro pins s σ H Q I h
  refine wpAny_Call_Name_kw (ld_blt I hg hm hv ?_ hn hdb)
  exact PyProof.Rows.callWith_type1 (thn (ha pos pins s σ H _ I h) fun us s1 ⟨vs, H1, I1, r1, q1⟩ => hc pins s1 σ H1 vs us Q I1 r1 q1) he hpl
end
end L2

namespace HT
open PySem PyProof.Rows

section
open PySem.SeqAt
open PySem.AutoSeq1 (wpAny_loadPart')
open PySem.MeetsSeq PySem.MeetsSeq2 PySem.MeetsSeq3

end

section
variable {prog : Program} {w : World} {A : Around} {E : Value → Shared → Prop} {s : Shared}

/-- t + u, t not empty -/
theorem cat_tup {t b : Addr} {vs ws : List Value} {Q : Value → Shared → Prop} (ht : IsTup s.heap t vs.toArray) (hb : IsTup s.heap b ws.toArray) (hv : vs ≠ [])
    (h1 : ws = [] → Q (.ref t) s) (h2 : ws ≠ [] → Q (.ref s.heap.objs.size) { s with heap := s.heap.push { cls := .type "tuple", data := .seq (vs ++ ws).toArray } })
    (hsz : vs.length + ws.length ≤ sizeLine) : wpAny (model prog w) A (binaryOp .Add (.ref t) (.ref b)) Q E s := by
  obtain ⟨⟨cls, dd, data, sl⟩, ho, hc, n, hd⟩ := id ht
  obtain ⟨⟨cls2, dd2, data2, sl2⟩, ho2, hc2, n2, hd2⟩ := id hb
  simp only at hc hd hc2 hd2
  subst hc hd hc2 hd2
  have e : vs.toArray ++ ws.toArray = (vs ++ ws).toArray := by simp
  by_cases hw : ws = []
  · exact concat_meets ⟨_, ho, rfl⟩ ⟨_, ho2, rfl⟩ noFill_tuple_add seq_tuple_add PySem.F.slot_tuple_add PySem.F.entry_tuple_add (PySem.F.args_tuple_add_2 _ _)
      (tuple_addW1 t b vs.toArray ws.toArray n n2 dd dd2 sl sl2 (by simpa using hv) (by simp [hw])) ⟨ho, ho2, h1 hw⟩
  · refine concat_meets ⟨_, ho, rfl⟩ ⟨_, ho2, rfl⟩ noFill_tuple_add seq_tuple_add PySem.F.slot_tuple_add PySem.F.entry_tuple_add (PySem.F.args_tuple_add_2 _ _)
      (tuple_addW2 t b vs.toArray ws.toArray n n2 dd dd2 sl sl2 (by simpa using hv) (by simpa using hw) (by rw [List.size_toArray, List.size_toArray]; exact hsz)) ⟨ho, ho2, ?_⟩
    rw [e]
    exact h2 hw

/-! ### t[a:b], not the whole -/
/-- a slice's bound as a place among n (d where it is left out) -/
def sIx (n d : Nat) : Option Int → Nat
  | none => d
  | some v => if v < 0 then (v + (n : Int)).toNat else min v.toNat n
theorem sIx_le (n d : Nat) (hd : d ≤ n) (o : Option Int) : sIx n d o ≤ n := by
  cases o with
  | none => exact hd
  | some v =>
    show (if v < 0 then (v + (n : Int)).toNat else min v.toNat n) ≤ n
    by_cases hv : v < 0
    · rw [if_pos hv]; omega
    · rw [if_neg hv]; exact Nat.min_le_right _ _
theorem clip_eq (v : Int) (n d : Nat) : (if v < 0 then max (v + (n : Int)) 0 else min v (n : Int)) = ((sIx n d (some v) : Nat) : Int) := by
  show (if v < 0 then max (v + (n : Int)) 0 else min v (n : Int)) = (((if v < 0 then (v + (n : Int)).toNat else min v.toNat n) : Nat) : Int)
  by_cases hv : v < 0
  · simp only [if_pos hv]; omega
  · simp only [if_neg hv]; omega
theorem adjust_gen (lo hi : Option Int) (n : Nat) : Builtin.Slice.sliceAdjust lo hi 1 (n : Int) = (((sIx n 0 lo : Nat) : Int), ((sIx n n hi : Nat) : Int)) := by
  have h1 : ¬ ((1 : Int) < 0) := by omega
  unfold Builtin.Slice.sliceAdjust
  simp only [h1, if_false]
  refine Prod.ext ?_ ?_
  · cases lo with
    | none => rfl
    | some v => exact clip_eq v n 0
  · cases hi with
    | none => rfl
    | some v => exact clip_eq v n n
theorem places_gen (i j : Nat) : Builtin.Slice.slicePlaces (i : Int) (j : Int) 1 = j - i := by
  unfold Builtin.Slice.slicePlaces
  have h1 : (1 : Int) > 0 := by omega
  simp only [h1, if_true, Int.ediv_one]
  split <;> omega
theorem slicePart_ {v : Value} {o : Option Int} {Q : Option Int → Shared → Prop} (p : IsPart v o) (h : Q o s) : wpAny (model prog w) A (Builtin.Slice.slicePartIndex v) Q E s := by
  cases p with
  | none => exact slicePart_none h
  | int i t => exact slicePart_int h
theorem sliceApplied_gen {sl : Addr} {vl vu : Value} {lo hi : Option Int} {n : Nat} {Q : Int × Int × Nat → Shared → Prop} (hs : s.heap.IsSliceOf sl vl vu .none) (pl : IsPart vl lo) (pu : IsPart vu hi)
    (h : Q (((sIx n 0 lo : Nat) : Int), 1, sIx n n hi - sIx n 0 lo) s) : wpAny (model prog w) A (Builtin.Slice.sliceApplied (.ref sl) (pure (n : Int))) Q E s := by
  obtain ⟨os, hos, hcs, hds⟩ := id hs
  unfold Builtin.Slice.sliceApplied Builtin.Slice.sliceFields
  refine wpAny_bind (wpAny_bind (wpAny_field hos hds (x := vl) rfl (wpAny_bind (wpAny_field hos hds (x := vu) rfl (wpAny_bind (wpAny_field hos hds (x := .none) rfl (wpAny_pure ?_)))))))
  refine wpAny_bind (slicePart_none ?_)
  show wpAny _ _ (if ((1 : Int) == 0) = true then _ else _) _ _ s
  rw [if_neg (by decide)]
  refine wpAny_bind (slicePart_ pl (wpAny_bind (slicePart_ pu (wpAny_bind (wpAny_pure ?_)))))
  show wpAny _ _ (match Builtin.Slice.sliceAdjust lo hi 1 (n : Int) with | (lo, hi) => pure (lo, (1 : Int), Builtin.Slice.slicePlaces lo hi 1)) _ _ s
  rw [adjust_gen lo hi n]
  show wpAny _ _ (pure (((sIx n 0 lo : Nat) : Int), (1 : Int), Builtin.Slice.slicePlaces ((sIx n 0 lo : Nat) : Int) ((sIx n n hi : Nat) : Int) 1)) _ _ s
  rw [places_gen]
  exact wpAny_pure h
theorem pick_gen (xs : Array Value) (i k : Nat) : ((List.range k).filterMap fun (m : Nat) => xs[((i : Int) + (m : Int) * 1).toNat]?).toArray = ((xs.toList.drop i).take k).toArray := by
  have e : (fun (m : Nat) => xs[((i : Int) + (m : Int) * 1).toNat]?) = fun m => xs[i + m]? := by
    funext m
    have : ((i : Int) + (m : Int) * 1).toNat = i + m := by omega
    rw [this]
  rw [e]
  have := pick_run xs i k
  rw [List.filterMap_map] at this
  have e2 : ((fun x => xs[x]?) ∘ fun x => i + x) = fun m => xs[i + m]? := rfl
  rw [e2] at this
  rw [this]

theorem getItem_tuple_cut {t sl : Addr} {items : Array Value} {vl vu : Value} {lo hi : Option Int} {Q : Value → Shared → Prop} (ht : IsTup s.heap t items) (hs : s.heap.IsSliceOf sl vl vu .none) (pl : IsPart vl lo) (pu : IsPart vu hi)
    (hw : ¬ (sIx items.size 0 lo = 0 ∧ sIx items.size items.size hi = items.size))
    (h : Q (.ref s.heap.objs.size) { s with heap := s.heap.push { cls := .type "tuple", data := .seq ((items.toList.drop (sIx items.size 0 lo)).take (sIx items.size items.size hi - sIx items.size 0 lo)).toArray } })
    (hsz : items.size ≤ sizeLine) : wpAny (model prog w) A (getItem (.ref t) (.ref sl)) Q E s := by
  have htake : sizeOk (.seq ((items.toList.drop (sIx items.size 0 lo)).take (sIx items.size items.size hi - sIx items.size 0 lo)).toArray) := by
    show ((items.toList.drop (sIx items.size 0 lo)).take (sIx items.size items.size hi - sIx items.size 0 lo)).toArray.size ≤ sizeLine
    rw [List.size_toArray, List.length_take, List.length_drop, Array.length_toList]
    omega
  have hj : sIx items.size items.size hi ≤ items.size := sIx_le _ _ (Nat.le_refl _) hi
  obtain ⟨os, hos, hcs, hds⟩ := id hs
  have hTs : s.TypeIs (.ref sl) "slice" := ⟨os, hos, hcs⟩
  unfold getItem
  try with_reducible refine wpAny_holding ?_
  first | refine wpAny_bind (wpAny_pure ?_) | skip
  refine wpAny_bind (wpAny_sequenceKey ht.typeIs (by decide) ?_)
  refine wpAny_bind (wpAny_callSpecial?_slot (name := Str.ofString "__getitem__") ht.typeIs PyProof.Rows.slot_tuple_getitem
    (wpAny_call_entry PyProof.Rows.slot_tuple_getitem ht.typeIs entry_tuple_getitem ?_ (args_tuple_getitem _ _)))
  show wpAny _ _ (Builtin.Tuple.tupleItemsOf (.ref t) >>= _) _ _ s
  refine wpAny_bind (tupleItemsOf_ ht ?_)
  refine wpAny_bind (wpAny_typeOf hTs ?_)
  rw [if_pos (by decide)]
  refine wpAny_bind (sliceApplied_gen hs pl pu ?_)
  have hno : ¬ ((((sIx items.size 0 lo : Nat) : Int) == 0 && (1 : Int) == 1 && (sIx items.size items.size hi - sIx items.size 0 lo) == items.size) = true) := by
    intro q
    rw [Bool.and_eq_true, Bool.and_eq_true] at q
    have q1 : ((sIx items.size 0 lo : Nat) : Int) = 0 := eq_of_beq q.1.1
    have q2 : sIx items.size items.size hi - sIx items.size 0 lo = items.size := eq_of_beq q.2
    exact hw ⟨by omega, by omega⟩
  show wpAny _ _ (if (((sIx items.size 0 lo : Nat) : Int) == 0 && (1 : Int) == 1 && (sIx items.size items.size hi - sIx items.size 0 lo) == items.size) = true then _ else _) _ _ s
  rw [if_neg hno, pick_gen]
  first
    | exact wpAny_bind (m := Builtin.Tuple.tupleExact _) (wpAny_newObj_type (wpAny_pure ⟨_, rfl, wpAny_pure h⟩) htake)
    | exact wpAny_bind (m := Builtin.Tuple.tupleExact _) (wpAny_newObj_type (wpAny_bind (wpAny_pure (wpAny_pure ⟨_, rfl, wpAny_pure h⟩))) htake)
    | exact wpAny_bind (wpAny_bind (m := Builtin.Tuple.tupleExact _) (wpAny_newObj_type (wpAny_pure (wpAny_pure ⟨_, rfl, wpAny_pure h⟩)) htake))
    | exact wpAny_bind (wpAny_bind (m := Builtin.Tuple.tupleExact _) (wpAny_newObj_type (wpAny_pure ⟨_, rfl, wpAny_pure h⟩) htake))
end
end HT

namespace L2
open PySem PySem.Spec PyProof.Rows

/-! ### the parts of a slice -/
abbrev TO := St → Hp → (Option Int → Hp → Prop) → Prop
/-- a slice's part (left out, or an int) -/
def PO (X : Cx) (e : Option Expr) (t : TO) : Prop :=
  ∀ (pins : List (Addr × Obj)) (s : Shared) (σ : St) (H : Hp) (Q : Option Int → Hp → Prop), Inv X pins σ H s → t σ H Q →
    wpAny (model X.prog X.w) X.A (evalPart e X.env) (fun u s' => ∃ o H', Inv X pins σ H' s' ∧ IsPart u o ∧ Q o H') X.xe s
def tNoPart : TO := fun _ H Q => Q none H
def tPart (t : TE) : TO := fun σ H Q => t σ H fun x H1 => ∃ i, x = .int i ∧ Q (some i) H1

section
variable {X : Cx} {e : Expr} {te : TE} {lo hi : Option Expr} {tl th : TO} {pos p2 : Pos}

theorem po_none : PO X none tNoPart := by
  intro pins s σ H Q I h
  rw [evalPart_none]
  exact wpAny_pure ⟨none, H, I, .none, h⟩
theorem po_some (h : PE X e te) : PO X (some e) (tPart te) := by
  intro pins s σ H Q I hw
  rw [evalPart_some]
  refine thn (h pins s σ H _ I hw) fun u s1 ⟨x, H1, I1, r1, q1⟩ => ?_
  obtain ⟨i, rfl, q⟩ := q1
  obtain ⟨t, rfl⟩ := r1
  exact ⟨some i, H1, I1, .int i t, q⟩

/-- what a slice of a value is, by values: the slice object stands at sl -/
def SlR (X : Cx) (r : V → Option Int → Option Int → Hp → VK → Prop) : Prop :=
  ∀ (pins : List (Addr × Obj)) (s : Shared) (σ : St) (H : Hp) (x : V) (v vl vu : Value) (lo hi : Option Int) (sl : Addr) (Q : VK), Inv X pins σ H s → RelV x v → s.heap.IsSliceOf sl vl vu .none → IsPart vl lo → IsPart vu hi → r x lo hi H Q →
    ∃ T id, typeLookup (.type T) "__getitem__" = pure (some (.builtin id)) ∧ s.TypeIs v T ∧ wpAny (model X.prog X.w) X.A (getItem v (.ref sl)) (EP X pins σ Q) X.xe s
theorem SlR.or {r r' : V → Option Int → Option Int → Hp → VK → Prop} (h : SlR X r) (h' : SlR X r') : SlR X (fun x lo hi H Q => r x lo hi H Q ∨ r' x lo hi H Q) := by
  intro pins s σ H x v vl vu lo hi sl Q I rx hs pl pu q
  rcases q with q | q
  · exact h pins s σ H x v vl vu lo hi sl Q I rx hs pl pu q
  · exact h' pins s σ H x v vl vu lo hi sl Q I rx hs pl pu q
def tSl (r : V → Option Int → Option Int → Hp → VK → Prop) (te : TE) (tl th : TO) : TE := fun σ H Q => te σ H fun x H1 => tl σ H1 fun l H2 => th σ H2 fun u H3 => r x l u H3 Q
/-- a[lo:hi], any a -/
theorem pe_slice {r : V → Option Int → Option Int → Hp → VK → Prop} (hr : SlR X r) (he : PE X e te) (hl : PO X lo tl) (hu : PO X hi th) : PE X (.Subscript e (.Slice lo hi none p2) pos) (tSl r te tl th) := by
  intro pins s σ H Q I h
  refine Subscript_ (thn (he pins s σ H _ I h) fun v s1 ⟨x, H1, I1, r1, q1⟩ => ?_)
  refine wpAny_Slice (thn (hl pins s1 σ H1 _ I1 q1) fun vl s2 ⟨l, H2, I2, pl, q2⟩ => thn (hu pins s2 σ H2 _ I2 q2) fun vu s3 ⟨u, H3, I3, pu, q3⟩ => ?_)
  rw [evalPart_none]
  refine wpAny_pure ?_
  have I4 : Inv X pins σ H3 { s3 with heap := s3.heap.push { cls := .type "slice", data := .fields #[vl, vu, .none] } } := I3.kept (t' := s3.toks) fun b ob q => Heap.get?_push_of_some _ q
  obtain ⟨T, id, hT, ht, hg⟩ := hr pins { s3 with heap := s3.heap.push { cls := .type "slice", data := .fields #[vl, vu, .none] } } σ H3 x v vl vu l u s3.heap.objs.size Q I4 r1 (Heap.IsSliceOf.new ..) pl pu q3
  show wpAny (model X.prog X.w) X.A (subscriptTail e (.Slice lo hi none p2) v (.ref s3.heap.objs.size)) (EP X pins σ Q) X.xe { s3 with heap := s3.heap.push { cls := .type "slice", data := .fields #[vl, vu, .none] } }
  exact tail_any (ops := [.ref s3.heap.objs.size, v]) ht hT hg (by with_unfolding_all rfl)

/-- the items of xs[lo:hi] -/
def cutV (xs : List V) (lo hi : Option Int) : List V := (xs.drop (HT.sIx xs.length 0 lo)).take (HT.sIx xs.length xs.length hi - HT.sIx xs.length 0 lo)
theorem cutV_length (xs : List V) (lo hi : Option Int) : (cutV xs lo hi).length ≤ xs.length := by
  unfold cutV
  rw [List.length_take, List.length_drop]
  omega
/-- t[lo:hi], not the whole of it (the whole would be t itself) -/
def rSlT (K : PySem.W.Frag) : V → Option Int → Option Int → Hp → VK → Prop := fun x lo hi H Q => ∃ a xs, x = .ref a ∧ SqT K H a xs ∧
  ¬ (HT.sIx xs.length 0 lo = 0 ∧ HT.sIx xs.length xs.length hi = xs.length) ∧ ∀ p, H p = none → Q (.ref p) (upd H p (.tup (cutV xs lo hi)))
theorem sl_tup : SlR X (rSlT X.K) := by
  intro pins s σ H x v vl vu lo hi sl Q I rx hs pl pu h
  obtain ⟨a, xs, rfl, hx, hw, q⟩ := h
  cases rx
  obtain ⟨its, r, ht, hz⟩ := I.tuple hx
  have hlen : its.toArray.size = xs.length := by rw [List.size_toArray]; exact r.length.symm
  refine ⟨"tuple", _, PyProof.Rows.slot_tuple_getitem.lookup, ht.typeIs, ?_⟩
  refine HT.getItem_tuple_cut ht hs pl pu (by rw [hlen]; exact hw) ?_ (by rw [hlen]; exact hz)
  rw [hlen]
  refine ⟨.ref s.heap.objs.size, _, I.laid (t' := s.toks) (o := .tup (cutV xs lo hi)) (fun b ob q => Heap.get?_push_of_some _ q) (Nat.le_refl _) ?_, rfl, q _ (I.hok.fresh (Nat.le_refl _))⟩
  exact ⟨Nat.le_trans (cutV_length xs lo hi) hz, _, (r.drop (HT.sIx xs.length 0 lo)).take (HT.sIx xs.length xs.length hi - HT.sIx xs.length 0 lo), IsTup.new _ _⟩

/-- t + u, t not empty: u empty gives t itself -/
def rCatT (K : PySem.W.Frag) : R2 := fun x y H Q => ∃ a b xs ys, x = .ref a ∧ y = .ref b ∧ SqT K H a xs ∧ SqT K H b ys ∧ xs ≠ [] ∧ xs.length + ys.length ≤ sizeLine ∧
  (ys = [] → Q (.ref a) H) ∧ (ys ≠ [] → ∀ p, H p = none → Q (.ref p) (upd H p (.tup (xs ++ ys))))
theorem Vals.nil_iff {xs : List V} {us : List Value} (r : Vals xs us) : us = [] ↔ xs = [] := by
  cases r with
  | nil => simp
  | cons _ _ => simp
theorem op_catT : OpR X (binaryOp .Add) (rCatT X.K) := by
  intro pins s σ H x y v u Q I rx ry h
  obtain ⟨a, b, xs, ys, rfl, rfl, ha, hb, hx, hz, q1, q2⟩ := h
  cases rx
  cases ry
  obtain ⟨its, r1, p1, _⟩ := I.tuple ha
  obtain ⟨its2, r2, p2, _⟩ := I.tuple hb
  refine HT.cat_tup p1 p2 (fun z => hx (r1.nil_iff.mp z)) (fun z => ⟨.ref a, H, I, rfl, q1 (r2.nil_iff.mp z)⟩) (fun z => ?_) (by rw [← r1.length, ← r2.length]; exact hz)
  refine ⟨.ref s.heap.objs.size, _, I.laid (t' := s.toks) (o := .tup (xs ++ ys)) (fun b ob q => Heap.get?_push_of_some _ q) (Nat.le_refl _) ?_, rfl, q2 (fun w => z (r2.nil_iff.mpr w)) _ (I.hok.fresh (Nat.le_refl _))⟩
  exact ⟨by rw [List.length_append]; exact hz, _, r1.append r2, IsTup.new _ _⟩
end
end L2

namespace L2
open PySem PySem.Spec PyProof.Rows

/-! ### places -/
/-- the place that an index of any sign means -/
def ixN (n : Nat) (i : Int) : Option Nat := if 0 ≤ i then (if i < n then some i.toNat else none) else if -(n : Int) ≤ i then some (i + n).toNat else none
def atI {α : Type} (xs : List α) (i : Int) : Option α := (ixN xs.length i).bind fun j => xs[j]?
theorem ixN_seq {n : Nat} {i : Int} {j : Nat} (h : ixN n i = some j) : seqIndex? i n = some j ∧ j < n ∧ -(n : Int) ≤ i ∧ i < n := by
  unfold ixN at h
  by_cases h0 : 0 ≤ i
  · rw [if_pos h0] at h
    by_cases h1 : i < n
    · rw [if_pos h1] at h
      have e : i.toNat = j := Option.some.inj h
      exact ⟨by rw [seqIndex_of h0 h1, e], by omega, by omega, h1⟩
    · rw [if_neg h1] at h; cases h
  · rw [if_neg h0] at h
    by_cases h1 : -(n : Int) ≤ i
    · rw [if_pos h1] at h
      have e : (i + n).toNat = j := Option.some.inj h
      exact ⟨by rw [seqIndex_neg (by omega) h1, e], by omega, h1, by omega⟩
    · rw [if_neg h1] at h; cases h
theorem atI_get {α : Type} {xs : List α} {i : Int} {v : α} (h : atI xs i = some v) : ∃ j, seqIndex? i xs.length = some j ∧ xs[j]? = some v ∧ j < xs.length ∧ -(xs.length : Int) ≤ i ∧ i < xs.length := by
  unfold atI at h
  cases e : ixN xs.length i with
  | none => rw [e] at h; cases h
  | some j =>
    rw [e] at h
    obtain ⟨h1, h2, h3, h4⟩ := ixN_seq e
    exact ⟨j, h1, h, h2, h3, h4⟩
/-! ### what may be subscripted -/
/-- what stands as an index of a plain subscript -/
def PlainIx (b : Expr) : Prop := ∀ o i, subscripted b false o i = operate [o, i] (getItem o i)
/-- a subscript by values -/
def IxR (X : Cx) (r : R2) : Prop :=
  ∀ (value slice : Expr) (pins : List (Addr × Obj)) (s : Shared) (σ : St) (H : Hp) (x y : V) (v u : Value) (Q : VK), Inv X pins σ H s → RelV x v → RelV y u → r x y H Q →
    subscripted slice false v u = operate [v, u] (getItem v u) → wpAny (model X.prog X.w) X.A (subscriptTail value slice v u) (EP X pins σ Q) X.xe s
/-- a call of a builtin's method by values: the receiver, the arguments -/
def MtR (X : Cx) (id : String) (r : V → List V → Hp → VK → Prop) : Prop :=
  ∀ (pins : List (Addr × Obj)) (s : Shared) (σ : St) (H : Hp) (x : V) (xs : List V) (v : Value) (us : List Value) (Q : VK), Inv X pins σ H s → RelV x v → Vals xs us → r x xs H Q →
    wpAny (model X.prog X.w) X.A (call (.builtin id) (v :: us)) (EP X pins σ Q) X.xe s
section
variable {X : Cx} {a b : Expr} {ta tb : TE} {pos : Pos}
theorem IxR.or {r r' : R2} (h : IxR X r) (h' : IxR X r') : IxR X (fun x y H Q => r x y H Q ∨ r' x y H Q) := by
  intro value slice pins s σ H x y v u Q I rx ry q hs
  rcases q with q | q
  · exact h value slice pins s σ H x y v u Q I rx ry q hs
  · exact h' value slice pins s σ H x y v u Q I rx ry q hs
theorem MtR.or {id : String} {r r' : V → List V → Hp → VK → Prop} (h : MtR X id r) (h' : MtR X id r') : MtR X id (fun x xs H Q => r x xs H Q ∨ r' x xs H Q) := by
  intro pins s σ H x xs v us Q I rx rs q
  rcases q with q | q
  · exact h pins s σ H x xs v us Q I rx rs q
  · exact h' pins s σ H x xs v us Q I rx rs q
/-- a[b] -/
theorem pe_ix {r : R2} (hr : IxR X r) (ha : PE X a ta) (hb : PE X b tb) (hs : PlainIx b) : PE X (.Subscript a b pos) (tOp r ta tb) := by
  intro pins s σ H Q I h
  exact Subscript_ (binT ha hb I h fun v u s2 x y H2 I2 rx ry q => hr a b pins s2 σ H2 x y v u Q I2 rx ry q (hs _ _))

def rIxL (K : PySem.W.Frag) : R2 := fun x y H Q => ∃ p xs i v, x = .ref p ∧ y = .int i ∧ SqL K H p xs ∧ atI xs i = some v ∧ Q v H
def rIxT (K : PySem.W.Frag) : R2 := fun x y H Q => ∃ p xs i v, x = .ref p ∧ y = .int i ∧ SqT K H p xs ∧ atI xs i = some v ∧ Q v H
def rIxS : R2 := fun x y H Q => ∃ z i c, x = .str z ∧ y = .int i ∧ z.length ≤ sizeLine ∧ atI z.cps.toList i = some c ∧ Q (.str ⟨#[c]⟩) H
theorem ix_list : IxR X (rIxL X.K) := by
  intro value slice pins s σ H x y v u Q I rx ry h hs
  obtain ⟨p, xs, i, z, rfl, rfl, hq, he, q⟩ := h
  cases rx
  obtain ⟨t, rfl⟩ := ry
  obtain ⟨its, r, pl, hz⟩ := I.list hq
  obtain ⟨j, h1, h2, h3, h4, h5⟩ := atI_get he
  obtain ⟨w, ew, rw'⟩ := r.get h2
  have hl := r.length
  have hn := line63
  have fin : EP X pins σ Q w s := ⟨z, H, I, rw', q⟩
  by_cases h0 : 0 ≤ i
  · have hj : i.toNat = j := by
      rw [seqIndex_of h0 h5] at h1
      exact Option.some.inj h1
    exact item_listR pl.isList h0 (by omega) (by rw [hj]; simpa using ew) fin hs
  · have hj : (i + (its.toArray.size : Int)).toNat = j := by
      rw [seqIndex_neg (by omega) h4] at h1
      rw [List.size_toArray, ← hl]
      exact Option.some.inj h1
    exact subscriptTail_builtinR (x := w) pl.isList.typeIs slot_list_getitem.lookup
      (wpAny_getItem_list_neg (Q := fun r s' => r = w ∧ EP X pins σ Q r s') pl.isList (by omega) (by rw [List.size_toArray] <;> omega) (by omega) (by rw [hj]; simpa using ew) ⟨rfl, fin⟩) hs
theorem ix_tup : IxR X (rIxT X.K) := by
  intro value slice pins s σ H x y v u Q I rx ry h hs
  obtain ⟨p, xs, i, z, rfl, rfl, hq, he, q⟩ := h
  cases rx
  obtain ⟨t, rfl⟩ := ry
  obtain ⟨its, r, pl, hz⟩ := I.tuple hq
  obtain ⟨j, h1, h2, h3, h4, h5⟩ := atI_get he
  obtain ⟨w, ew, rw'⟩ := r.get h2
  have hl := r.length
  have hn := line63
  have fin : EP X pins σ Q w s := ⟨z, H, I, rw', q⟩
  exact subscriptTail_builtinR (x := w) pl.typeIs slot_tuple_getitem.lookup
    (getItem_tuple (j := j) (Q := fun r s' => r = w ∧ EP X pins σ Q r s') pl (by omega) (by omega) (by rw [List.size_toArray, ← hl]; exact h1) (by simpa using ew) ⟨rfl, fin⟩) hs
theorem ix_str : IxR X rIxS := by
  intro value slice pins s σ H x y v u Q I rx ry h hs
  obtain ⟨z, i, c, rfl, rfl, hz, he, q⟩ := h
  obtain ⟨t, rfl⟩ := rx
  obtain ⟨t', rfl⟩ := ry
  obtain ⟨j, h1, h2, h3, h4, h5⟩ := atI_get he
  have hl : z.cps.toList.length = z.length := by simp [Str.length]
  rw [hl] at h1 h4 h5
  have hn := line63
  exact tail_any (typeIs_str s z t) slot_str_getitem.lookup (getItem_str (c := c) (by
    have e1 : decide (i < -(2 ^ 63 : Int)) = false := decide_eq_false (by omega)
    have e2 : decide (i ≥ 2 ^ 63) = false := decide_eq_false (by omega)
    rw [e1, e2, Bool.or_false]) (by rw [h1]; simpa using h2) ⟨.str ⟨#[c]⟩, H, I.tok _, ⟨_, rfl⟩, q⟩) hs
/-- list, tuple or str -/
def rIx (K : PySem.W.Frag) : R2 := fun x y H Q => rIxL K x y H Q ∨ rIxT K x y H Q ∨ rIxS x y H Q
theorem ix_seq : IxR X (rIx X.K) := ix_list.or (ix_tup.or ix_str)

theorem Inv.lst {pins : List (Addr × Obj)} {σ : St} {H : Hp} {s : Shared} {p : Addr} {xs : List V} (I : Inv X pins σ H s) (h : H p = some (.lst xs)) :
    ∃ (its : List Value) (n : Nat), Vals xs its ∧ s.heap.get? p = some { cls := .type "list", data := .seq its.toArray n } ∧ xs.length ≤ sizeLine := by
  obtain ⟨z, its, n, r, e⟩ := I.hok p _ h
  exact ⟨its, n, r, e, z⟩
/-! ### slices -/
theorem slice_bounds (lo hi : Option Int) (n : Nat) : (sliceBounds lo hi none n).1 = ((HT.sIx n 0 lo : Nat) : Int) ∧ (sliceBounds lo hi none n).2.1 = ((HT.sIx n n hi : Nat) : Int) ∧ (sliceBounds lo hi none n).2.2 = 1 := by
  refine ⟨?_, ?_, rfl⟩
  · cases lo with
    | none => simp [sliceBounds, HT.sIx]
    | some i =>
      simp only [sliceBounds, HT.sIx, Option.getD_none, show (1 : Int) > 0 by decide, if_true]
      by_cases h : i < 0
      · simp only [h, if_true] <;> omega
      · simp only [h, if_false] <;> omega
  · cases hi with
    | none => simp [sliceBounds, HT.sIx]
    | some i =>
      simp only [sliceBounds, HT.sIx, Option.getD_none, show (1 : Int) > 0 by decide, if_true]
      by_cases h : i < 0
      · simp only [h, if_true] <;> omega
      · simp only [h, if_false] <;> omega
theorem slicePick_cut (its : List Value) (lo hi : Option Int) : slicePick its.toArray lo hi none = ((its.drop (HT.sIx its.length 0 lo)).take (HT.sIx its.length its.length hi - HT.sIx its.length 0 lo)).toArray := by
  obtain ⟨h1, h2, h3⟩ := slice_bounds lo hi its.toArray.size
  unfold slicePick
  rw [h1, h2, h3]
  simp only [sliceRange_one, pick_run, List.size_toArray] <;> rfl
/-- xs[lo:hi] of a list: a new list -/
def rSlL (K : PySem.W.Frag) : V → Option Int → Option Int → Hp → VK → Prop := fun x lo hi H Q => ∃ a xs, x = .ref a ∧ SqL K H a xs ∧ ∀ p, H p = none → Q (.ref p) (upd H p (.lst (cutV xs lo hi)))
theorem sl_list : SlR X (rSlL X.K) := by
  intro pins s σ H x v vl vu lo hi sl Q I rx hs pl pu h
  obtain ⟨a, xs, rfl, hx, q⟩ := h
  cases rx
  obtain ⟨its, r, ht, hz⟩ := I.list hx
  have hlen := r.length
  refine ⟨"list", _, slot_list_getitem.lookup, ht.isList.typeIs, ?_⟩
  refine wpAny_getItem_list_slice ht.isList hs pl pu .none (by simp) ?_ (by rw [List.size_toArray] <;> omega)
  rw [slicePick_cut, ← hlen]
  refine ⟨.ref s.heap.objs.size, _, I.laid (t' := s.toks) (o := .lst (cutV xs lo hi)) (fun b ob q => Heap.get?_push_of_some _ q) (Nat.le_refl _) ?_, rfl, q _ (I.hok.fresh (Nat.le_refl _))⟩
  exact ⟨Nat.le_trans (cutV_length xs lo hi) hz, _, 0, (r.drop (HT.sIx xs.length 0 lo)).take (HT.sIx xs.length xs.length hi - HT.sIx xs.length 0 lo), Heap.get?_push_size _ rfl⟩

/-! ### len, list(x), tuple(x) of any list or tuple that is read -/
theorem call_len_seq : CallR X (.builtin "len") (fun xs H Q => ∃ p ys, xs = [.ref p] ∧ (SqL X.K H p ys ∨ SqT X.K H p ys) ∧ Q (.int ys.length) H) := by
  intro pins s σ H xs us Q I r h
  obtain ⟨p, ys, rfl, hq, q⟩ := h
  obtain ⟨u, rfl, rx⟩ := vals1 r
  cases rx
  have hn := line63
  rcases hq with hq | hq
  · obtain ⟨its, r', pl, hz⟩ := I.list hq
    have hlen := r'.length
    exact Calls.call_len_list pl.isList (by simp only [List.size_toArray] <;> omega) ⟨.int ys.length, H, I.tok _, ⟨s.toks + 1, by rw [List.size_toArray, hlen]⟩, q⟩
  · obtain ⟨its, r', pl, hz⟩ := I.tuple hq
    have hlen := r'.length
    exact len_tuple pl (by simp only [List.size_toArray] <;> omega) ⟨.int ys.length, H, I.tok _, ⟨s.toks + 1, by rw [List.size_toArray, hlen]⟩, q⟩
theorem call_len_str : CallR X (.builtin "len") (fun xs H Q => ∃ z, xs = [.str z] ∧ z.length ≤ sizeLine ∧ Q (.int z.length) H) := by
  intro pins s σ H xs us Q I r h
  obtain ⟨z, rfl, hz, q⟩ := h
  obtain ⟨u, rfl, t, rfl⟩ := vals1 r
  have hn := line63
  exact len_str (by omega) ⟨.int z.length, H, I.tok _, ⟨_, rfl⟩, q⟩
theorem CallR.or {f : Value} {r r' : List V → Hp → VK → Prop} (h : CallR X f r) (h' : CallR X f r') : CallR X f (fun xs H Q => r xs H Q ∨ r' xs H Q) := by
  intro pins s σ H xs us Q I rs q
  rcases q with q | q
  · exact h pins s σ H xs us Q I rs q
  · exact h' pins s σ H xs us Q I rs q
theorem call_tuple_of : CallR X (.type "tuple") (fun xs H Q => ∃ p ys, xs = [.ref p] ∧ ((SqL X.K H p ys ∧ ∀ l, H l = none → Q (.ref l) (upd H l (.tup ys))) ∨ (SqT X.K H p ys ∧ Q (.ref p) H))) := by
  intro pins s σ H xs us Q I r h
  obtain ⟨p, ys, rfl, h⟩ := h
  obtain ⟨u, rfl, rx⟩ := vals1 r
  cases rx
  rcases h with ⟨hq, q⟩ | ⟨hq, q⟩
  · obtain ⟨its, r', pl, hz⟩ := I.list hq
    have hlen := r'.length
    refine call_tuple_list pl.isList (fun h' kp => ?_) (by simp only [List.size_toArray] <;> omega)
    have I1 : Inv X pins σ H { s with heap := h' } := I.kept (t' := s.toks) kp
    have I2 : Inv X pins σ (upd H h'.objs.size (.tup ys)) { s with heap := h'.push { cls := .type "tuple", data := .seq its.toArray } } :=
      I1.laid (t' := s.toks) (fun b o e => Heap.get?_push_of_some _ e) (Nat.le_refl _) (show ObjOk X.prog X.w _ _ _ (.tup ys) from ⟨hz, its, r', IsTup.new _ _⟩)
    exact ⟨.ref h'.objs.size, _, I2, rfl, q _ (I1.hok.fresh (Nat.le_refl _))⟩
  · obtain ⟨its, r', pl, hz⟩ := I.tuple hq
    exact call_tuple_same pl ⟨.ref p, H, I, rfl, q⟩

/-! ### the call of a builtin's method: o.m(..) -/
/-- the value is of that builtin type -/
def tyV (K : PySem.W.Frag) (T : String) (x : V) (H : Hp) : Prop := match x with
  | .str _ => T = "str"
  | .int _ => T = "int"
  | .ref p => (T = "list" ∧ ∃ xs, SqL K H p xs) ∨ (T = "tuple" ∧ ∃ o, K.lookup p = some o ∧ o.cls = .type "tuple" ∧ o.dict = none) ∨
      (T = "dict" ∧ ((∃ kvs, H p = some (.dK kvs)) ∨ ∃ kvs, H p = some (.dT kvs))) ∨ (T = "set" ∧ ∃ S n, H p = some (.set S n))
  | _ => False
theorem tyV_is {pins : List (Addr × Obj)} {σ : St} {H : Hp} {s : Shared} {T : String} {x : V} {v : Value} (I : Inv X pins σ H s) (r : RelV x v) (ty : tyV X.K T x H) :
    s.TypeIs v T ∧ ∀ a, v = .ref a → ∃ ob, s.heap.get? a = some ob ∧ ob.dict = none := by
  cases x with
  | str z =>
    obtain ⟨t, rfl⟩ := r
    cases (show T = "str" from ty)
    exact ⟨typeIs_str s z t, fun _ e => nomatch e⟩
  | int i =>
    obtain ⟨t, rfl⟩ := r
    cases (show T = "int" from ty)
    exact ⟨typeIs_int s i t, fun _ e => nomatch e⟩
  | ref p =>
    cases r
    rcases ty with ⟨rfl, xs, hq⟩ | ⟨rfl, o, hk, hc, hd⟩ | ⟨rfl, hk⟩ | ⟨rfl, S, n, hk⟩
    · obtain ⟨its, _, pl, _⟩ := I.list hq
      refine ⟨pl.isList.typeIs, fun a e => ?_⟩
      cases e
      obtain ⟨o, n, e, c, hd, _⟩ := pl
      exact ⟨o, e, hd⟩
    · refine ⟨⟨o, I.kIn p o hk, hc⟩, fun a e => ?_⟩
      cases e
      exact ⟨o, I.kIn _ o hk, hd⟩
    · have z : ∃ o, s.heap.get? p = some o ∧ o.ExactDict := by
        rcases hk with ⟨kvs, hk⟩ | ⟨kvs, hk⟩
        · obtain ⟨_, _, _, _, o, _, _, e, ex, _⟩ := I.hok p _ hk
          exact ⟨o, e, ex⟩
        · obtain ⟨_, _, _, _, o, _, _, e, ex, _⟩ := I.hok p _ hk
          exact ⟨o, e, ex⟩
      obtain ⟨o, e, ex⟩ := z
      refine ⟨⟨o, e, ex.1⟩, fun a e2 => ?_⟩
      cases e2
      exact ⟨o, e, ex.2.1⟩
    · obtain ⟨o, _, _, _, e, ex, _⟩ := I.hok p _ hk
      refine ⟨⟨o, e, ex.1⟩, fun a e2 => ?_⟩
      cases e2
      exact ⟨o, e, ex.2.1⟩
  | _ => exact False.elim ty
def tBM0 (K : PySem.W.Frag) (T : String) (r : V → List V → Hp → VK → Prop) (to : TE) : TE := fun σ H Q => to σ H fun x H1 => tyV K T x H1 ∧ r x [] H1 Q
def tBM (K : PySem.W.Frag) (T : String) (r : V → List V → Hp → VK → Prop) (to : TE) (t : TA) : TE := fun σ H Q => to σ H fun x H1 => tyV K T x H1 ∧ t σ H1 fun xs H2 => r x xs H2 Q
variable {o e : Expr} {es : List Expr} {to : TE} {t : TA} {name : Str} {apos cpos : Pos} {T id : String} {r : V → List V → Hp → VK → Prop}
theorem pe_bm0 (pa : PlainAttrs T) (slot : Slot T name id) (hty : typeOf (.builtin id) = pure (.type "method_descriptor")) (hm : MtR X id r) (ho : PE X o to)
    (hbase : attributeBase o name X.env (eval o X.env) = eval o X.env := by rfl) (hline : (apos.endLine == cpos.line) = true := by rfl) : PE X (.Call (.Attribute o name apos) [] [] cpos) (tBM0 X.K T r to) := by
  intro pins s σ H Q I h
  refine wpAny_Call_method0_late hbase hline (thn (ho pins s σ H _ I h) fun v s1 ⟨x, H1, I1, r1, ty, q1⟩ => ?_)
  obtain ⟨h1, h2⟩ := tyV_is I1 r1 ty
  exact ⟨T, id, pa, slot, hty, h1, h2, Calls.callWith_builtin rfl (PySem.evalArgs_none (hm pins s1 σ H1 x [] v [] Q I1 r1 .nil q1))⟩
theorem pe_bm (pa : PlainAttrs T) (slot : Slot T name id) (hty : typeOf (.builtin id) = pure (.type "method_descriptor")) (hm : MtR X id r) (ho : PE X o to) (ha : PA X (e :: es) t)
    (hbase : attributeBase o name X.env (eval o X.env) = eval o X.env := by rfl)
    (hfew : ((backTo cpos (starEach (e :: es) X.env)).all (fun x => !x.1) && (backToKw cpos (keywordEach [] X.env)).all (fun x => x.1.isSome)
      && decide ((e :: es).length + ([] : List Keyword).length + (if ([] : List Keyword).isEmpty then 0 else 1) < 30)) = true := by rfl)
    (hline : (apos.endLine == cpos.line) = true := by rfl) (hs : starEach (e :: es) X.env = (false, eval e X.env) :: starEach es X.env := by rfl) (hplain : (backTo cpos (starEach es X.env)).any (·.1) = false := by rfl) :
    PE X (.Call (.Attribute o name apos) (e :: es) [] cpos) (tBM X.K T r to t) := by
  intro pins s σ H Q I h
  refine wpAny_Call_method_late hbase hfew hline rfl (thn (ho pins s σ H _ I h) fun v s1 ⟨x, H1, I1, r1, ty, q1⟩ => ?_)
  obtain ⟨h1, h2⟩ := tyV_is I1 r1 ty
  refine ⟨T, id, pa, slot, hty, h1, h2, ?_⟩
  have hA := ha cpos pins s1 σ H1 _ I1 q1
  rw [hs] at hA ⊢
  refine Calls.callWith_builtin (by show (false || (backTo cpos (starEach es X.env)).any (·.1)) = false; rw [hplain] <;> rfl) (Calls.evalArgs_plain ?_)
  exact thn hA fun us s2 ⟨vs, H2, I2, r2, q2⟩ => hm pins s2 σ H2 x vs v us Q I2 r1 r2 q2
/- xs.append(e), list.index on a module's tuple .. are MtR facts of 06m -/
end
end L2

namespace L2
open PySem PySem.Spec PyProof.Rows

def MtM (X : Cx) (id : String) (r : V → List V → Hp → VK → Prop) : Prop :=
  ∀ (pins : List (Addr × Obj)) (s : Shared) (σ : St) (H : Hp) (x : V) (xs : List V) (v : Value) (us : List Value) (Q : VK), Inv X pins σ H s → RelV x v → Vals xs us → r x xs H Q →
    wpAny (model X.prog X.w) X.A (call (.builtin id) (v :: us)) (EP X pins σ Q) X.xe s

/-! ### lists of values -/
theorem Vals.one : ∀ {x : V} {us : List Value}, Vals [x] us → ∃ u, us = [u] ∧ RelV x u
  | _, _, .cons r .nil => ⟨_, rfl, r⟩
theorem Vals.two : ∀ {x y : V} {us : List Value}, Vals [x, y] us → ∃ u v, us = [u, v] ∧ RelV x u ∧ RelV y v
  | _, _, _, .cons r (.cons q .nil) => ⟨_, _, rfl, r, q⟩
theorem Vals.zero : ∀ {us : List Value}, Vals [] us → us = []
  | _, .nil => rfl
theorem Vals.dropLast {xs : List V} {us : List Value} (h : Vals xs us) : Vals xs.dropLast us.dropLast := by
  induction h with
  | nil => exact .nil
  | cons r t ih =>
    cases t with
    | nil => exact .nil
    | cons q t' => exact .cons r ih
theorem Vals.eraseIdx : ∀ {xs : List V} {us : List Value} (i : Nat), Vals xs us → Vals (xs.eraseIdx i) (us.eraseIdx i)
  | _, _, _, .nil => .nil
  | _, _, 0, .cons _ t => t
  | _, _, i + 1, .cons r t => .cons r (Vals.eraseIdx i t)
theorem Vals.reverse {xs : List V} {us : List Value} (h : Vals xs us) : Vals xs.reverse us.reverse := by
  induction h with
  | nil => exact .nil
  | cons r t ih => rw [List.reverse_cons, List.reverse_cons]; exact Vals.append ih (.cons r .nil)
theorem Vals.rep {xs : List V} {us : List Value} (h : Vals xs us) : ∀ k : Nat, Vals (List.replicate k xs).flatten (List.replicate k us).flatten
  | 0 => .nil
  | k + 1 => by
    rw [List.replicate_succ, List.replicate_succ, List.flatten_cons, List.flatten_cons]
    exact Vals.append h (Vals.rep h k)
theorem erase_last {α : Type} (l : List α) : l.eraseIdx (l.length - 1) = l.dropLast := by
  induction l with
  | nil => rfl
  | cons a r ih =>
    cases r with
    | nil => rfl
    | cons b r =>
      have e : (a :: b :: r).length - 1 = ((b :: r).length - 1) + 1 := by
        have h1 : (a :: b :: r).length = r.length + 2 := rfl
        have h2 : (b :: r).length = r.length + 1 := rfl
        omega
      rw [e, List.eraseIdx_cons_succ, ih]
      all_goals rfl
theorem foldl_rep (its : List Value) : ∀ (k : Nat) (acc : List Value),
    List.foldl (fun x1 x2 => x1 ++ x2) acc.toArray (List.replicate k its.toArray) = (acc ++ (List.replicate k its).flatten).toArray
  | 0, acc => by simp
  | k + 1, acc => by
    have e : acc.toArray ++ its.toArray = (acc ++ its).toArray := by simp
    have e2 : (acc ++ its) ++ (List.replicate k its).flatten = acc ++ (List.replicate (k + 1) its).flatten := by
      rw [List.replicate_succ, List.flatten_cons, List.append_assoc]
    rw [← e2, ← foldl_rep its k (acc ++ its), ← e, List.replicate_succ, List.foldl_cons]

section
variable {X : Cx} {pins : List (Addr × Obj)} {σ : St} {H : Hp} {s : Shared} {l b : Addr} {xs ys zs : List V}

/-! ### the two steps: a tracked list is rewritten, a new list is laid -/
theorem Inv.lset {its its' : List Value} {n : Nat} {f : Array Value → Array Value} {t' : Nat} (I : Inv X pins σ H s) (hH : H l = some (.lst xs))
    (e : s.heap.get? l = some { cls := .type "list", data := .seq its.toArray n }) (hf : f its.toArray = its'.toArray) (hv : Vals ys its') (hz : ys.length ≤ sizeLine) :
    Inv X pins σ (upd H l (.lst ys)) { s with heap := s.heap.update l (Obj.mapSeq f), toks := t' } := by
  have q := PySem.IsL.update e f
  rw [hf] at q
  refine I.write (x := l) (e := l) (by rw [hH]; exact trivial) (.inl rfl) (fun b' u hb hu => (Heap.get?_update_other s.heap (Obj.mapSeq f) (Ne.symm hb)).trans hu) ⟨_, q⟩ ?_
  exact ⟨hz, its', _, hv, q⟩
theorem Inv.lnew {its : List Value} {t' : Nat} (I : Inv X pins σ H s) (hv : Vals ys its) (hz : ys.length ≤ sizeLine) :
    Inv X pins σ (upd H s.heap.objs.size (.lst ys)) { s with heap := s.heap.push { cls := .type "list", data := .seq its.toArray }, toks := t' } :=
  I.laid (fun _ _ q => Heap.get?_push_of_some _ q) (Nat.le_refl _) ⟨hz, its, 0, hv, Heap.get?_push_size _ rfl⟩
theorem Inv.fresh (I : Inv X pins σ H s) : H s.heap.objs.size = none := I.hok.fresh (Nat.le_refl _)
theorem Inv.lstM (I : Inv X pins σ H s) (hH : H l = some (.lst xs)) : xs.length ≤ sizeLine ∧ ∃ (its : List Value) (n : Nat), Vals xs its ∧ xs.length = its.length ∧ s.heap.get? l = some { cls := .type "list", data := .seq its.toArray n } := by
  obtain ⟨z, its, n, r, e⟩ := I.hok l _ hH
  exact ⟨z, its, n, r, r.length, e⟩

theorem notLongL {n : Nat} (h : n ≤ sizeLine) : Builtin.List.listTooLong n = false := by
  unfold Builtin.List.listTooLong
  exact decide_eq_false (by omega)
end

section
variable {X : Cx}

/-! ### methods -/
def rAppend : V → List V → Hp → VK → Prop := fun x vs H Q => ∃ l xs y, x = .ref l ∧ vs = [y] ∧ H l = some (.lst xs) ∧ xs.length < sizeLine ∧ Q .non (upd H l (.lst (xs ++ [y])))
theorem mt_append : MtM X "list.append" rAppend := by
  intro pins s σ H x vs v us Q I rx rv h
  obtain ⟨l, xs, y, rfl, rfl, hH, hz, q⟩ := h
  cases rx
  obtain ⟨u, rfl, ru⟩ := rv.one
  obtain ⟨z, its, n, r, hl, e⟩ := I.lstM hH
  refine call_meets F.slot_list_append ⟨_, e, rfl⟩ F.entry_list_append (F.args_list_append_2 _ _) (PySem.list_append l its.toArray n u (by rw [List.size_toArray]; omega)) ⟨e, ?_⟩
  refine ⟨.non, _, I.lset (its' := its ++ [u]) hH e (by simp) (r.append (.cons ru .nil)) ?_, rfl, q⟩
  rw [List.length_append, List.length_singleton]
  omega

def rPop : V → List V → Hp → VK → Prop := fun x vs H Q => ∃ l xs y, x = .ref l ∧ vs = [] ∧ H l = some (.lst xs) ∧ xs[xs.length - 1]? = some y ∧ Q y (upd H l (.lst xs.dropLast))
theorem mt_pop : MtM X "list.pop" rPop := by
  intro pins s σ H x vs v us Q I rx rv h
  obtain ⟨l, xs, y, rfl, rfl, hH, hy, q⟩ := h
  cases rx
  have hus := rv.zero
  subst hus
  obtain ⟨z, its, n, r, hl, e⟩ := I.lstM hH
  obtain ⟨u, hu, ru⟩ := r.get hy
  have hy' : its.toArray[its.toArray.size - 1]? = some u := by
    show its.toArray[its.length - 1]? = some u
    rw [← Array.getElem?_toList, ← hl]
    exact hu
  refine call_meets F.slot_list_pop ⟨_, e, rfl⟩ F.entry_list_pop (F.args_list_pop_1 _) (MeetsSeq.list_pop_last l its.toArray n u hy' (by rw [List.size_toArray]; omega)) ⟨e, ?_⟩
  refine ⟨y, _, I.lset (its' := its.dropLast) hH e ?_ r.dropLast ?_, ru, q⟩
  · show its.toArray.eraseIdxIfInBounds (its.toArray.size - 1) = its.dropLast.toArray
    rw [List.size_toArray, List.eraseIdxIfInBounds_toArray, erase_last]
  · rw [List.length_dropLast]
    omega

theorem len_rep {α : Type} (xs : List α) (k : Nat) : (List.replicate k xs).flatten.length = k * xs.length := by
  induction k with
  | zero => simp
  | succ k ih => rw [List.replicate_succ, List.flatten_cons, List.length_append, ih, Nat.succ_mul, Nat.add_comm]
end

/-! ### xs[a:b] = ys -/
section
variable {prog : Program} {w : World} {A : Around} {E : Value → Shared → Prop} {s : Shared}
end

section
variable {X : Cx}
end
end L2

namespace Att
open PySem PySem.W PySem.Calls PyProof.Rows

/-! ### the script -/
theorem ints_of_wellAll {P : Params} {h : Heap} : ∀ (ns : List Int) (vs : List Value), WellAll P h vs (ns.map WData.int) → IntsAre vs ns := by
  intro ns
  induction ns with
  | nil =>
    intro vs w
    rw [List.map_nil] at w
    cases w
    exact .nil
  | cons n ns ih =>
    intro vs w
    rw [List.map_cons] at w
    cases w with
    | cons a b =>
      cases a
      exact .cons _ _ (ih _ b)

theorem script_of {l : OpenLaw} {n : Nat} (hn : l.most = some n) {P : Params} {h : Heap} {args : List WData} {vals : List Value}
    (hpre : l.row.toRowW.claim.pre args = true) (hwl : WellAll P h vals args) :
    ∃ a vs ns, vals = [Value.ref a] ∧ args = [WData.list (ns.map WData.int)] ∧ h.get? a = some { cls := .type "list", data := .seq vs.toArray } ∧ IntsAre vs ns ∧ ns.length ≤ n := by
  have hsh : WShape.hasAll [] args [.list .int] = true := (pre_splitW hpre).1
  have hc : l.pre.holds [] { args := args } = true := (pre_splitW hpre).2
  obtain ⟨d, r, rfl, h1, h2⟩ := hasAllW_cons hsh
  obtain rfl := hasAllW_nil h2
  obtain ⟨xs, rfl, h3⟩ := hasW_list h1
  obtain ⟨ns, rfl⟩ := items_int h3
  have hlen : ns.length ≤ n := by
    unfold OpenLaw.pre at hc
    have h4 : (WTm.not (.lt (.lit (.int (n : Int))) (.len (.arg 0)))).holds [] { args := [.list (ns.map .int)] } = true := by
      have h4 := (holds_andW hc).1
      rw [hn] at h4
      exact h4
    have h5 := condW_of h4 (w_not (w_lt w_lit (w_len_list (w_arg rfl))))
    rw [List.length_map] at h5
    refine Nat.le_of_not_lt fun q => ?_
    have q' : (n : Int) < ((ns.length : Nat) : Int) := by omega
    first
      | (rw [decide_eq_true q'] at h5; exact absurd h5 (by decide))
      | (simp at h5; omega)
  cases hwl with
  | cons w1 w2 =>
    cases w2
    cases w1 with
    | list ho hall => exact ⟨_, _, ns, rfl, rfl, ho, ints_of_wellAll ns _ hall, hlen⟩

theorem post_true (l : OpenLaw) (args : List WData) : l.row.toRowW.claim.post args (.bool true) args = true :=
  postW_of (r := l.row.toRowW) (X := (true == true))
    (show WShape.has [] (.bool true) .bool = true by first | rfl | decide | simp [WShape.has, WShape.arms, WShape.armsAll])
    (show (WTm.eq .res (.lit (.bool true))).value [] { args := args, res := some (.bool true), after := args } = some (.bool (true == true)) from w_eq_bool (w_res rfl) w_lit) rfl

/-- the same from a codeAny of the CALL (for a layer whose function contracts speak of calls) -/
theorem attach_call {l : OpenLaw} {n : Nat} {q : Program} {loose : List Str} {XP : (Str → Option Value) → Heap → Prop} {YP : World → Heap → Prop} {d : DefRec}
    (hn : l.most = some n) (hdf : d.params.defaults = [])
    (call : ∀ (w : World) (s₀ s₁ : Shared) (mg mb : Str → Option Value) (fa : Addr) (o : Obj) (pm cd doc : Value) (a : Addr) (vs : List Value) (ns : List Int),
      Ground q loose [] XP w s₀ mg mb s₁.heap → YP w s₁.heap →
      s₁.heap.get? fa = some o → o.data = .func (docDef d.name d.params d.body d.scope pm cd doc) → s₁.heap.CodeRec cd d.name → mg d.name = some (.ref fa) →
      s₁.heap.get? a = some { cls := .type "list", data := .seq vs.toArray } → IntsAre vs ns → ns.length ≤ n → s₁.gens = #[] →
      codeAny (model l.prog w) callerA (.call (.ref fa) ⟨[.ref a], []⟩) (fun r s' => r = .ok (.ret (.bool true)) ∧ OldK s₁.heap s'.heap ∧ s'.os = s₁.os ∧ AllBare s'.gens) s₁) :
    WalkO q loose XP YP l.row.toRowW d [] (fun f vs => PySem.call f vs) := by
  intro w s₀ s₁ mg mb G Y fa o pm cd doc dV kV ho hd hcd hD hmg hg args vals as hpre hlay hrd hwl hlo
  obtain rfl : dV = .none := Dflts.none hD hdf
  obtain rfl : kV = .none := Dflts.noKw hD
  obtain ⟨a, vs, ns, rfl, rfl, hobj, hints, hlen⟩ := script_of hn hpre hwl
  refine enter_call (codeAny_mono (call w s₀ s₁ mg mb fa o pm cd doc a vs ns G Y ho (fd_plain hd) hcd hmg hobj hints hlen hg) fun r s' hq => ?_)
  obtain ⟨rfl, h2, h3, h4⟩ := hq
  exact ⟨.inl ⟨.bool true, .bool true, [], rfl, fun _ => rfl, .bool true, post_true l _, fun _ => ⟨List.Pairwise.nil, fun _ hm => (nomatch hm)⟩⟩, h2, h3, h4⟩

/-! ### rules over ANY heap (no ledger) from facts about the written part K: the library's own take a ledger (News) for what they write -/
section
variable {prog : Program} {w : World} {A : Around} {E : Value → Shared → Prop} {s : Shared} {K : Frag}

def ledger (h : Heap) (L d : Addr) : List (Addr × Obj) := (List.range h.objs.size).filterMap fun a => if a = L ∨ a = d then none else (h.get? a).map fun o => (a, o)
end
end Att

namespace L2
open PySem PySem.Spec PyProof.Rows

theorem vals_ints : ∀ {vs : List Value} {ns : List Int}, IntsAre vs ns → Vals (ns.map V.int) vs
  | _, _, .nil => .nil
  | _, _, .cons n t h => .cons ⟨t, rfl⟩ (vals_ints h)

/-- nothing is tracked but the script, known to the object (or it is an object of the module) -/
def Only (H : Hp) : Prop := ∀ b, H b = none ∨ ∃ o xs, H b = some (.frz o (.lst xs))

/-- THE HEAD: the law's promise, at the heap behind the top. F, the promise of the law's def, may use that base is part of the heap (so K.In base, base.Ns mainGlobals mg stand in Mod) -/
theorem law_call {P : Program} {w : World} {K : PySem.W.Frag} {mg mb : Str → Option Value} {CX : CXT} {k : Nat} {fa a : Addr} {fd : FuncData} {x : Str} {sp : Sp} {s₁ : Shared} {vs : List Value} {ns : List Int}
    (KX : K.In s₁.heap) (hns : s₁.heap.Ns mainGlobals mg) (hb : s₁.heap.Ns builtinsNs mb) (hbb : ∀ x : Str, x ≠ "__name__" → mb x = bootBuiltins x) (hlim : s₁.heap.NoLimit) (hg : s₁.gens = #[])
    (ha : s₁.heap.get? a = some { cls := .type "list", data := .seq vs.toArray }) (hi : IntsAre vs ns) (hl : ns.length ≤ sizeLine) (hr : Room k callerA)
    (F : ∀ base : Heap, K.In base → base.Ns mainGlobals mg → FnOk P w K mg base CX k fa fd [x] sp) (hbind : ∀ (s : Shared) (u : Value), BindsTo s fd ⟨[u], []⟩ [(x, u)])
    (hsp : ∀ H : Hp, Only H → SqL K H a (ns.map V.int) → sp [.ref a] H (fun v _ => v = .bl true) fun _ _ _ => False)
    (hCX : ∀ H e s', CX [] H s₁ (fun _ _ _ => False) e s' → False) :
    codeAny (model P w) callerA (.call (.ref fa) ⟨[.ref a], []⟩) (fun r s' => r = .ok (.ret (.bool true)) ∧ OldK s₁.heap s'.heap ∧ s'.os = s₁.os ∧ AllBare s'.gens) s₁ := by
  have rv := vals_ints hi
  have lenV := hi.length
  -- from an abstract heap in which nothing but the script may be tracked
  have core : ∀ H : Hp, Only H → SqL K H a (ns.map V.int) → HOk P w H s₁.heap → (∀ b, H b ≠ none → b = a) → (H a ≠ none → K.lookup a = none) →
      codeAny (model P w) callerA (.call (.ref fa) ⟨[.ref a], []⟩) (fun r s' => r = .ok (.ret (.bool true)) ∧ OldK s₁.heap s'.heap ∧ s'.os = s₁.os ∧ AllBare s'.gens) s₁ := by
    intro H hO hS hok hA hK
    have base_of : ∀ {b : Addr} {o : Obj}, s₁.heap.get? b = some o → H b = none → (hidT s₁.heap H).get? b = some o := fun e n => hidT_get e n
    have noA : ∀ {b : Addr} {o : Obj} {es : Array DictEntry} {ep : Nat}, s₁.heap.get? b = some o → o.data = .dict es ep → H b = none := fun {b o es ep} e d => by
      cases q : H b with
      | none => rfl
      | some u =>
        have e' : b = a := hA b (by rw [q]; simp)
        subst e'
        rw [ha] at e; cases e
        have d' : Data.seq vs.toArray _ = Data.dict es ep := d
        cases d'
    have nsK : ∀ {b : Addr} {m : Str → Option Value}, s₁.heap.Ns b m → (hidT s₁.heap H).Ns b m := fun {b m} ⟨o, es, ep, e, d, r⟩ => ⟨o, es, ep, base_of e (noA e d), d, r⟩
    have hKb : K.In (hidT s₁.heap H) := fun b o e => base_of (KX b o e) (by
      cases q : H b with
      | none => rfl
      | some u =>
        have e' : b = a := hA b (by rw [q]; simp)
        subst e'
        rw [hK (by rw [q]; simp)] at e; cases e)
    have hM : Mod K mg (hidT s₁.heap H) := ⟨hKb, nsK hns, ⟨mb, nsK hb, hbb⟩, let ⟨mc, h1, h2⟩ := hlim; ⟨mc, nsK h1, h2⟩⟩
    have e0 : Env0 P w K mg (hidT s₁.heap H) callerA [] s₁ H := ⟨rfl, hM, fun b o e => of_hidT e, Nat.le_of_eq (hidT_size _ _), trivial, fun b hb => absurd (show b ∈ ([] : List Addr) from hb) (by simp), hok, .of_eq hg⟩
    refine codeAny_mono ((F _ hKb (nsK hns)).run callerA [] s₁ H ⟨[.ref a], []⟩ [.ref a] [.ref a] _ _ hr e0 (hbind s₁ (.ref a)) (.cons rfl .nil) (hsp H hO hS)) fun r s' h => ?_
    cases r with
    | error e => exact (hCX H e s' h).elim
    | ok fl =>
      cases fl with
      | next => exact False.elim h
      | brk => exact False.elim h
      | cont => exact False.elim h
      | ret u =>
        obtain ⟨v, H', os, bare, un, hok', r', q⟩ := h
        have q' : v = .bl true := q
        subst q'
        obtain rfl : u = Value.bool true := r'
        refine ⟨rfl, OldK.of_keep fun b o e => ?_, os, bare⟩
        cases q : H b with
        | none => exact un.keep b o e q (by intro z; exact absurd (show b ∈ ([] : List Addr) from z) (by simp)) (by simp)
        | some u =>
          rcases hO b with z | ⟨ob, xs, z⟩
          · rw [q] at z; cases z
          · have z2 := un.frzs b ob _ z
            obtain ⟨e1, _⟩ := hok b _ z
            obtain ⟨e2, _⟩ := hok' b _ z2
            rw [e] at e1; cases e1
            exact e2
  cases hk : K.lookup a with
  | some o =>
    -- the script is one of the module's own objects
    have e := KX a o hk
    rw [ha] at e
    cases e
    refine core (fun _ => none) (fun _ => .inl rfl) (.inr ⟨_, vs.toArray, _, hk, rfl, rfl, rfl, by rw [List.size_toArray, lenV]; exact hl, by simpa using rv⟩) (fun b u z => by have z' : (none : Option HO) = some u := z; cases z') (fun b z => absurd rfl z) fun z => absurd rfl z
  | none =>
    refine core (fun b => if b = a then some (.frz { cls := .type "list", data := .seq vs.toArray } (.lst (ns.map V.int))) else none) (fun b => ?_) (.inl (.inr ⟨{ cls := .type "list", data := .seq vs.toArray }, if_pos rfl⟩)) (fun b u z => ?_) (fun b z => ?_) fun _ => hk
    · by_cases hb : b = a
      · exact .inr ⟨_, _, if_pos hb⟩
      · exact .inl (if_neg hb)
    · by_cases hb : b = a
      · have z' := (if_pos hb).symm.trans z
        cases z'
        subst hb
        exact ⟨ha, by rw [List.length_map]; exact hl, vs, _, rv, ha⟩
      · have z' := (if_neg hb).symm.trans z
        cases z'
    · by_cases hb : b = a
      · exact hb
      · exact absurd (if_neg hb) z
end L2

namespace L2
open PySem PySem.Spec PyProof.Rows

abbrev KOf {K : PySem.W.Frag} {h : Heap} (_ : K.In h) : PySem.W.Frag := K

/-- the goal that k_head leaves (case hc), from the law's promise. F gives the function object fd (K's own) once, then the promise over every base -/
theorem walk_of {l : PySem.W.OpenLaw} {n k : Nat} {q : Program} {loose : List Str} {XP : (Str → Option Value) → Heap → Prop} {YP : World → Heap → Prop} {d : DefRec} {K : Params → PySem.W.Frag} {CX : World → CXT} {sp : World → Sp} {x : Str}
    (hn : l.most = some n) (hn2 : n ≤ sizeLine) (hdf : d.params.defaults = []) (hr : Room k callerA)
    (hY : ∀ (w : World) (h : Heap), YP w h → (K w.params).In h)
    (F : ∀ (w : World) (mg : Str → Option Value) (fa : Addr) (h : Heap), (K w.params).In h → h.Ns mainGlobals mg → mg d.name = some (.ref fa) →
      ∃ fd : FuncData, (∀ (s : Shared) (u : Value), BindsTo s fd ⟨[u], []⟩ [(x, u)]) ∧
        ∀ base : Heap, (K w.params).In base → base.Ns mainGlobals mg → FnOk l.prog w (K w.params) mg base (CX w) k fa fd [x] (sp w))
    (hsp : ∀ (w : World) (H : Hp) (a : Addr) (ns : List Int), ns.length ≤ n → Only H → SqL (K w.params) H a (ns.map V.int) → sp w [.ref a] H (fun v _ => v = .bl true) fun _ _ _ => False)
    (hCX : ∀ (w : World) (H : Hp) (s : Shared) (e : Value) (s' : Shared), CX w [] H s (fun _ _ _ => False) e s' → False) :
    PySem.W.WalkO q loose XP YP l.row.toRowW d [] (fun f vs => PySem.call f vs) := by
  refine Att.attach_call hn hdf fun w s₀ s₁ mg mb fa o pm cd doc a vs ns G Y ho hd hcd hmg hobj hints hlen hg => ?_
  have KX := hY w _ Y
  obtain ⟨fd, hb, hF⟩ := F w mg fa _ KX G.T.g hmg
  exact law_call KX G.T.g G.T.b G.T.builtins G.T.nolimit hg hobj hints (Nat.le_trans hlen hn2) hr hF hb (fun H hO hS => hsp w H a ns hlen hO hS) fun H e s' => hCX w H s₁ e s'
end L2

/- THE LAST THEOREM (shape; LID, My.* are yours):
   My.Adr: a structure of the addresses that your layer names (classes, functions); My.Txt K t: a structure (Prop) of the equations over K;
   My.txt_mk : {K} {implicit addresses ..} (e1 : nsIn K mainGlobals "law" = some (some (.ref f))) (e2 : K.lookup f = some ⟨oc, od, .func (fnOf "law" "law" params body scope dV kV doc pm an cdv ct), sl⟩) (e3 : codeIn K cdv "law" = true) .. : ∃ t, My.Txt K t

set_option maxRecDepth 100000 in
set_option maxHeartbeats 0 in
theorem PySem.Challenge.cw_LID_holds : PySem.Challenge.rw_LID.Holds := by
  w_on; o_law; k_head; (case hw => w_witness2)
  k_fill
  refine L2.walk_of (l := PySem.Challenge.rw_LID) (n := 63) (k := 40) (x := "script") (CX := fun w => ..) (sp := fun _ => My.sp_law) rfl (by decide) rfl ⟨rfl, by decide, by decide⟩ (fun w h Y => PySem.W.kIn_of Y) ?F ?S ?C
  case F =>
    intro w mg fa h KX G hmg
    have T : ∃ t, My.Txt (L2.KOf KX) t := by
      dsimp only [L2.KOf]                          -- K must stand as «<heap const> w.params» for k_is
      refine' My.txt_mk ?e1 ?e2 ?e3 ..
      (case e1 => PySem.W.k_is)                    -- in the order: a name -> its address -> its object -> its parts
      (case e2 => PySem.W.k_is)
      ..
    obtain ⟨t, T⟩ := T
    have e0 := hmg.symm.trans (PySem.W.mg_of KX G T.law)
    cases e0                                       -- fa is the law's own address
    exact ⟨_, fun s u => .of_eq rfl, fun base kb nb => My.law_fn T kb nb⟩     -- if «.of_eq rfl» comes too early: refine' ⟨_, ?b, fun base kb nb => My.law_fn T kb nb⟩; exact fun s u => .of_eq rfl
  case S => exact fun w H a ns hl hO hS => ..
  case C => exact ..
(the tactic k_is has no namespace: write k_is) -/

/-! SHORT WORDS over the layer: a def of the text, its body, what a loop and a test want. -/
namespace L2
open PySem PySem.Spec PyProof.Rows

def defArgs (s : Stmt) : Arguments := match s with
  | .FunctionDef _ a _ _ _ _ _ _ _ _ => a
  | _ => { posonlyargs := [], args := [], vararg := none, kwonlyargs := [], kw_defaults := [], kwarg := none, defaults := [] }
def defBody (s : Stmt) : List Stmt := match s with
  | .FunctionDef _ _ b _ _ _ _ _ _ _ => b
  | _ => []
def defScope (s : Stmt) : Scope := match s with
  | .FunctionDef _ _ _ _ _ _ sc _ _ _ => sc
  | _ => { kind := .function, names := [], isGenerator := false, isCoroutine := false }

/-! ### no exception leaves a def -/
abbrev CX0 : CXT := fun _ _ _ _ _ _ => False
/-! ### a def (or method) of the text as it stands behind the top -/
structure Fun (K : PySem.W.Frag) (x qual : Str) (st : Stmt) (f : Addr) (fd : FuncData) : Prop where
  ex : ∃ (oc : Value) (od : Option Addr) (kV doc pm : Value) (an : Option Addr) (cdv ct : Value) (osl : Array (Option Value)),
    fd = PySem.W.fnOf x qual (defArgs st) (defBody st) (defScope st) .none kV doc pm an cdv ct ∧ K.lookup f = some ⟨oc, od, .func fd, osl⟩ ∧ PySem.W.codeIn K cdv qual = true
  kp : PySem.W.keepIn K (.ref f) = true
section
variable {P : Program} {w : World} {K : PySem.W.Frag} {mg : Str → Option Value} {base : Heap}
/-- THE RULE for a def: its body as a term of rules, and the reading of that term -/
theorem Fun.ok {x qual : Str} {st : Stmt} {f : Addr} {fd : FuncData} {N ps : List Str} {k : Nat} {sp : Sp} (F : Fun K x qual st f fd) (S : FnScope N ps (defScope st)) (len : ∀ vs H Q E, sp vs H Q E → vs.length = ps.length)
    (hbody : ∀ (cdv : Value) (A : Around) (outer : List Env) (s : Shared) (H : Hp) (vs : List V) (Q : VK) (E : XK), Room k (A.deeper (envOfC qual (defScope st) s.heap.objs.size f cdv)) → sp vs H Q E →
      ∃ t, PSs (cxOf CX0 P w K mg base N qual (defScope st) f cdv A outer s H E).nox (defBody st) t ∧ t { nx := fun _ H' => Q .non H', rt := Q } (start N vs) H) : FnOk P w K mg base CX0 (k + 1) f fd ps sp := by
  obtain ⟨oc, od, kV, doc, pm, an, cdv, ct, osl, rfl, lk, hcd⟩ := F.ex
  refine fn_of lk hcd S len fun A outer s H vs Q E hr hsp => ?_
  obtain ⟨t, h, q⟩ := hbody cdv A outer s H vs Q E hr hsp
  exact ⟨t, h.nox, q⟩
/-- how its arguments bind (no defaults): h is «fun _ _ _ _ _ _ us hl => match us, hl with | [_, _], _ => rfl», one _ a parameter -/
theorem Fun.binds {x qual : Str} {st : Stmt} {f : Addr} {fd : FuncData} {ps : List Str} (F : Fun K x qual st f fd)
    (h : ∀ (kV doc pm : Value) (an : Option Addr) (cdv ct : Value) (us : List Value), us.length = ps.length → bindArgs (PySem.W.fnOf x qual (defArgs st) (defBody st) (defScope st) .none kV doc pm an cdv ct) ⟨us, []⟩ = pure (ps.zip us)) : Binds K fd ps [] := by
  obtain ⟨oc, od, kV, doc, pm, an, cdv, ct, osl, rfl, lk, hcd⟩ := F.ex
  exact .all (h kV doc pm an cdv ct)
theorem fun_mk {x qual : Str} {st : Stmt} {f : Addr} {oc : Value} {od an : Option Addr} {osl : Array (Option Value)} {kV doc pm cdv ct : Value} (l : K.lookup f = some ⟨oc, od, .func (PySem.W.fnOf x qual (defArgs st) (defBody st) (defScope st) .none kV doc pm an cdv ct), osl⟩)
    (c : PySem.W.codeIn K cdv qual = true) (k : PySem.W.keepIn K (.ref f) = true) : Fun K x qual st f (PySem.W.fnOf x qual (defArgs st) (defBody st) (defScope st) .none kV doc pm an cdv ct) := ⟨⟨oc, od, kV, doc, pm, an, cdv, ct, osl, rfl, l, c⟩, k⟩
end
/-! ### expressions in short: the name that stands in the i-th slot -/
section
variable {X : Cx}
end

/-! ### tests -/
theorem iteF {A B : Prop} (h : B) : if false = true then A else B := by
  rw [if_neg Bool.false_ne_true]
  exact h
theorem iteT {A B : Prop} (h : A) : if true = true then A else B := by
  rw [if_pos rfl]
  exact h
/-! ### heaps -/
/-- all that was tracked is as it was -/
def Same (H H' : Hp) : Prop := ∀ b o, H b = some o → H' b = some o
theorem Same.refl (H : Hp) : Same H H := fun _ _ h => h
theorem Same.trans {H H1 H2 : Hp} (a : Same H H1) (b : Same H1 H2) : Same H H2 := fun c o h => b c o (a c o h)
theorem Same.free {H H' : Hp} (e : Same H H') {l : Addr} (h : H' l = Option.none) : H l = Option.none := by
  cases q : H l with
  | none => rfl
  | some o =>
    rw [e l o q] at h
    cases h
theorem Same.seq {K : PySem.W.Frag} {H H' : Hp} {a : Addr} {xs : List V} (e : Same H H') (h : SqL K H a xs) : SqL K H' a xs := by
  rcases h with (h | ⟨o, h⟩) | h
  · exact .inl (.inl (e _ _ h))
  · exact .inl (.inr ⟨o, e _ _ h⟩)
  · exact .inr h

end L2
set_option Elab.async false
set_option linter.all false
set_option maxRecDepth 100000
namespace L2
open PySem PySem.Spec PyProof.Rows

end L2

namespace L2
open PySem PySem.Spec PyProof.Rows

section
variable (P : Program) (w : World)
end

section
variable {P : Program} {w : World} {H H' : Hp} {h h' : Heap} {a : Addr} {o : HO}
end

section
variable {P : Program} {w : World} {H : Hp} {h h' : Heap} {x e : Addr} {o' : HO}
end

section
variable {fs fs' ex ex' : List Addr} {H H1 H2 : Hp} {h h1 h2 h' : Heap} {a x e : Addr} {o : HO}
end

end L2

namespace L2
open PySem PySem.Spec PyProof.Rows

section
variable {X : Cx} {pins : List (Addr × Obj)} {σ : List (Option V)} {H H' : Hp} {s : Shared} {h' : Heap}

end

end L2

namespace L2
open PySem PySem.Spec PyProof.Rows
section
variable {X : Cx}

variable {a b : Expr} {ta tb : TE} {pos : Pos}
variable {tA tB' : TT} {rest : List Expr}
end
end L2

namespace L2
open PySem PySem.Spec PyProof.Rows

section
variable {X : Cx} {pins : List (Addr × Obj)} {σ : St} {H : Hp} {s : Shared} {a : Addr} {xs ys : List V}
end

section
variable {X : Cx} {pins : List (Addr × Obj)} {σ : St} {H : Hp} {s : Shared} {E : Value → Shared → Prop}
end

section
variable {X : Cx} {st : Stmt} {rest : List Stmt} {t u : TS} {e : Expr} {te : TE} {pos : Pos}
end

section
variable {X : Cx} {pos : Pos}
end

section
variable {X : Cx} {pos : Pos}
end

end L2

namespace L2
open PySem PySem.Spec PyProof.Rows
section
variable {X : Cx} {tg : Expr}
end

end L2

namespace L2
open PySem PySem.Spec PyProof.Rows

section
variable {X : Cx} {a b c : Expr} {ta tb tc : TE} {pos : Pos}

end

section
variable {X : Cx} {a b c : Expr} {ta tb tc : TE} {pos : Pos}
end
end L2

namespace L2
open PySem PySem.Spec PyProof.Rows

section
variable {prog : Program} {w : World} {A : Around} {E : Value → Shared → Prop} {s : Shared} {K : PySem.W.Frag} {x dx C f : Addr} {mA : Str → Option Value} {name : Str} {v : Value}

end

section
variable {P : Program} {w : World} {H H' : Hp} {h h' : Heap} {a C dx : Addr} {fs fs' : List (Str × V)}
end

section
variable {X : Cx} {pins : List (Addr × Obj)} {σ : St} {H : Hp} {s : Shared} {a C dx : Addr} {fs : List (Str × V)} {f : Str} {v : V} {A : Around} {E : Value → Shared → Prop}

end

section
variable {X : Cx} {o e value : Expr} {f : Str} {pos pos' tpos : Pos} {ta tv : TE}
end

section
variable {X : Cx} {pins : List (Addr × Obj)} {σ : St} {H : Hp} {s : Shared} {A : Around} {E : Value → Shared → Prop} {Q : Value → Shared → Prop} {c : Value} {b : Bool}
end
end L2

namespace L2
open PySem PySem.Spec PyProof.Rows

section
variable {X : Cx} {e : Expr} {es : List Expr} {te : TE} {t : TA} {pos : Pos}
end

section
variable {X : Cx} {pins : List (Addr × Obj)} {σ : St} {H : Hp} {s s' : Shared}
end

section
variable {X : Cx} {CX : CXT} {k : Nat} {f C : Addr} {fd : FuncData} {ps : List Str} {sp : Sp} {dvs : List V} {ds : List Value} {E : XK} {x m : Str} {p pos apos : Pos} {e o : Expr} {es : List Expr} {ta : TE} {t : TA}

end

section
variable {X : Cx} {CX : CXT} {k : Nat} {f C : Addr} {fd : FuncData} {ps ks : List Str} {sp : Sp} {E : XK} {x m : Str} {p pos apos kpos : Pos} {e o : Expr} {es : List Expr} {kws : List Keyword} {te ta : TE} {t tk : TA} {nm : Option Str}
variable {g : List Value → List Value → List Value} {gV : List V → List V → List V}
end

end L2

namespace L2
open PySem PySem.Spec PyProof.Rows
section
variable {X : Cx} {x : Str} {p pos : Pos} {e : Expr} {es : List Expr} {t : TA} {id T : String} {r : List V → Hp → VK → Prop}

end
end L2

namespace L2
open PySem PySem.Spec PyProof.Rows

section
variable {κ : Type} [DecidableEq κ]
def valV (kvs : List (κ × V)) (k : κ) : Option V := (kvs.find? fun kv => decide (kv.1 = k)).map (·.2)
def putK (kvs : List (κ × V)) (k : κ) (v : V) : List (κ × V) :=
  if (kvs.any fun kv => decide (kv.1 = k)) = true then kvs.map (fun kv => if kv.1 = k then (kv.1, v) else kv) else kvs ++ [(k, v)]
theorem valV_pos {p : κ × V} {r : List (κ × V)} {k : κ} (e : p.1 = k) : valV (p :: r) k = some p.2 := by simp [valV, List.find?_cons, e]
theorem valV_neg {p : κ × V} {r : List (κ × V)} {k : κ} (e : ¬ p.1 = k) : valV (p :: r) k = valV r k := by simp [valV, List.find?_cons, e]
theorem valV_any (k : κ) : ∀ kvs : List (κ × V), (kvs.any fun kv => decide (kv.1 = k)) = (valV kvs k).isSome
  | [] => rfl
  | p :: r => by
    rw [List.any_cons]
    by_cases e : p.1 = k
    · simp only [valV_pos e, decide_eq_true e, Bool.true_or, Option.isSome_some]
    · rw [valV_neg e, decide_eq_false e, Bool.false_or]; exact valV_any k r
theorem length_putK (kvs : List (κ × V)) (k : κ) (v : V) : (putK kvs k v).length ≤ kvs.length + 1 := by
  unfold putK
  split
  · rw [List.length_map]; omega
  · rw [List.length_append, List.length_cons, List.length_nil]; omega
theorem RelO.isSome_eq {o : Option V} {u : Option Value} (r : RelO o u) : o.isSome = u.isSome := by
  cases o with
  | none => cases u with
    | none => rfl
    | some _ => exact (show False from r).elim
  | some _ => cases u with
    | none => exact (show False from r).elim
    | some _ => rfl
theorem RelO.getD {o : Option V} {u : Option Value} {d : V} {d' : Value} (r : RelO o u) (rd : RelV d d') : RelV (o.getD d) (u.getD d') := by
  cases o with
  | none => cases u with
    | none => exact rd
    | some _ => exact (show False from r).elim
  | some _ => cases u with
    | none => exact (show False from r).elim
    | some _ => exact r

theorem KV.val {kvs : List (κ × V)} {vs : List (κ × Value)} (r : KV kvs vs) (k : κ) : RelO (valV kvs k) (valueAt vs k) := by
  unfold KV at r
  induction r with
  | nil => exact True.intro
  | @cons p q ps qs h t ih =>
    obtain ⟨h1, h2⟩ := h
    by_cases e : p.1 = k
    · have e' : q.1 = k := h1.symm.trans e
      have b : valueAt (q :: qs) k = some q.2 := by simp [valueAt, List.find?_cons, e']
      rw [valV_pos e, b]; exact h2
    · have e' : ¬ q.1 = k := fun z => e (h1.trans z)
      have b : valueAt (q :: qs) k = valueAt qs k := by simp [valueAt, List.find?_cons, e']
      rw [valV_neg e, b]; exact ih
theorem KV.any {kvs : List (κ × V)} {vs : List (κ × Value)} (r : KV kvs vs) (k : κ) : (kvs.any fun kv => decide (kv.1 = k)) = vs.any fun kv => decide (kv.1 = k) := by
  unfold KV at r
  induction r with
  | nil => rfl
  | cons h t ih => rw [List.any_cons, List.any_cons, ih, h.1]
theorem KV.repl {kvs : List (κ × V)} {vs : List (κ × Value)} (r : KV kvs vs) (k : κ) {y : V} {u : Value} (ry : RelV y u) :
    KV (kvs.map fun kv => if kv.1 = k then (kv.1, y) else kv) (vs.map fun kv => if kv.1 = k then (kv.1, u) else kv) := by
  unfold KV at r ⊢
  induction r with
  | nil => exact .nil
  | @cons p q ps qs h t ih =>
    rw [List.map_cons, List.map_cons]
    refine .cons ?_ ih
    obtain ⟨h1, h2⟩ := h
    by_cases e : p.1 = k
    · rw [if_pos e, if_pos (h1.symm.trans e)]; exact ⟨h1, ry⟩
    · rw [if_neg e, if_neg (fun z => e (h1.trans z))]; exact ⟨h1, h2⟩
theorem KV.put {kvs : List (κ × V)} {vs : List (κ × Value)} (r : KV kvs vs) (k : κ) {y : V} {u : Value} (ry : RelV y u) : KV (putK kvs k y) (stored vs k u) := by
  unfold putK stored
  rw [r.any k]
  by_cases e : (vs.any fun kv => decide (kv.1 = k)) = true
  · rw [if_pos e, if_pos e]; exact r.repl k ry
  · rw [if_neg e, if_neg e]; exact Paired.snoc r ⟨rfl, ry⟩
theorem KV.keys {kvs : List (κ × V)} {vs : List (κ × Value)} (r : KV kvs vs) : kvs.map (·.1) = vs.map (·.1) := by
  unfold KV at r
  induction r with
  | nil => rfl
  | cons h t ih => rw [List.map_cons, List.map_cons, ih, h.1]
theorem KV.length {kvs : List (κ × V)} {vs : List (κ × Value)} (r : KV kvs vs) : kvs.length = vs.length := Paired.length r
end


theorem kV_is {P : Program} {w : World} {k : Key} {u : Value} (r : RelV (kV k) u) : (mixKind P w).is k u = true := by
  cases k with
  | inl i => obtain ⟨t, e⟩ := (show ∃ t, u = Value.int i t from r); subst e; exact mixKind_int P w i t
  | inr x => obtain ⟨t, e⟩ := (show ∃ t, u = Value.str x t from r); subst e; exact mixKind_str P w x t
theorem items_are {P : Program} {w : World} : ∀ {ks : List Key} {us : List Value}, Vals (ks.map kV) us → ItemsAre (mixKind P w) ks us
  | [], _, r => by rw [List.map_nil] at r; cases r; exact .nil
  | k :: ks, _, r => by
    rw [List.map_cons] at r
    cases r with
    | cons h t => exact .cons (kV_is h) (items_are t)

abbrev KT (H : Hp) : List (List Key × V) → List (List Key × Addr × Value) → Prop := Paired fun p q => p.1 = q.1 ∧ H q.2.1 = some (.tup (p.1.map kV)) ∧ RelV p.2 q.2.2
theorem KT.val {H : Hp} {kvs : List (List Key × V)} {xs : List (List Key × Addr × Value)} (r : KT H kvs xs) (k : List Key) : RelO (valV kvs k) ((atKey xs k).map (·.2)) := by
  induction r with
  | nil => exact True.intro
  | @cons p q ps qs h t ih =>
    obtain ⟨h1, _, h2⟩ := h
    by_cases e : p.1 = k
    · have e' : q.1 = k := h1.symm.trans e
      have b : atKey (q :: qs) k = some q.2 := by simp [atKey, List.find?_cons, e']
      rw [valV_pos e, b]; exact h2
    · have e' : ¬ q.1 = k := fun z => e (h1.trans z)
      have b : atKey (q :: qs) k = atKey qs k := by simp [atKey, List.find?_cons, e']
      rw [valV_neg e, b]; exact ih
theorem KT.repl {H : Hp} {kvs : List (List Key × V)} {xs : List (List Key × Addr × Value)} (r : KT H kvs xs) (k : List Key) {y : V} {u : Value} (ry : RelV y u) :
    KT H (kvs.map fun kv => if kv.1 = k then (kv.1, y) else kv) (xs.map (putAt k u)) := by
  induction r with
  | nil => exact .nil
  | @cons p q ps qs h t ih =>
    rw [List.map_cons, List.map_cons]
    refine .cons ?_ ih
    obtain ⟨h1, h2, h3⟩ := h
    unfold putAt
    by_cases e : p.1 = k
    · rw [if_pos e, if_pos (h1.symm.trans e)]; exact ⟨h1, h2, ry⟩
    · rw [if_neg e, if_neg (fun z => e (h1.trans z))]; exact ⟨h1, h2, h3⟩
theorem KT.put {H : Hp} {kvs : List (List Key × V)} {xs : List (List Key × Addr × Value)} (r : KT H kvs xs) (k : List Key) {b : Addr} {y : V} {u : Value} (hb : H b = some (.tup (k.map kV))) (ry : RelV y u) :
    KT H (putK kvs k y) (storedH xs k b u) := by
  have e : (kvs.any fun kv => decide (kv.1 = k)) = (atKey xs k).isSome := by
    rw [valV_any, (r.val k).isSome_eq, Option.isSome_map]
  unfold putK storedH
  rw [e]
  by_cases q : (atKey xs k).isSome = true
  · rw [if_pos q, if_pos q]; exact r.repl k ry
  · rw [if_neg q, if_neg q]; exact Paired.snoc r ⟨rfl, hb, ry⟩
theorem KT.keeps {H H' : Hp} {kvs : List (List Key × V)} {xs : List (List Key × Addr × Value)} (r : KT H kvs xs) (ht : ∀ b ys, H b = some (.tup ys) → H' b = some (.tup ys)) : KT H' kvs xs :=
  Paired.mapP r fun _ _ z => ⟨z.1, ht _ _ z.2.1, z.2.2⟩

section
variable {P : Program} {w : World} {H : Hp} {h : Heap} {a : Addr}
theorem rd_of {u : HO} (ok : HOk P w H h) (e : Rd H a u) : ObjOk P w H h a u := e.ok ok
theorem dk_rd {kvs : List (Key × V)} (ok : HOk P w H h) (e : Rd H a (.dK kvs)) : kvs.length ≤ sizeLine ∧ (a == sysModules) = false ∧ ∃ vs, KV kvs vs ∧ h.DictOf (mixKind P w) a vs :=
  show ObjOk P w H h a (.dK kvs) from rd_of ok e
theorem dk_of {kvs : List (Key × V)} (ok : HOk P w H h) (e : H a = some (.dK kvs)) : kvs.length ≤ sizeLine ∧ (a == sysModules) = false ∧ ∃ vs, KV kvs vs ∧ h.DictOf (mixKind P w) a vs := dk_rd ok (.inl e)
theorem key_of {ks : List Key} (ok : HOk P w H h) (e : H a = some (.tup (ks.map kV))) : (tupleKind (mixKind P w)).is h ks a := by
  obtain ⟨_, its, r, o, h1, h2, n, h3⟩ := (show ObjOk P w H h a (.tup (ks.map kV)) from ok a _ e)
  exact ⟨o, its.toArray, n, h1, h2, h3, by simpa using items_are r⟩
theorem dt_rd {kvs : List (List Key × V)} (ok : HOk P w H h) (e : Rd H a (.dT kvs)) : kvs.length ≤ sizeLine ∧ (a == sysModules) = false ∧
    ∃ xs, KT H kvs xs ∧ h.DictOfH (tupleKind (mixKind P w)) a xs := by
  obtain ⟨z, y, xs, r, o, es, ep, h1, h2, h3, h4, h5⟩ := (show ObjOk P w H h a (.dT kvs) from rd_of ok e)
  refine ⟨z, y, xs, r, o, es, ep, h1, h2, h3, h4, fun x hx => ?_, h5⟩
  have all : ∀ {l : List (List Key × V)} {m : List (List Key × Addr × Value)}, KT H l m → ∀ x ∈ m, (tupleKind (mixKind P w)).is h x.1 x.2.1 := by
    intro l m q
    induction q with
    | nil => intro x hx; exact nomatch hx
    | @cons p q ps qs hq t ih =>
      intro x hx
      rcases List.mem_cons.mp hx with e | hx
      · subst e
        exact key_of ok (by rw [← hq.1]; exact hq.2.1)
      · exact ih x hx
  exact all r x hx
theorem dt_of {kvs : List (List Key × V)} (ok : HOk P w H h) (e : H a = some (.dT kvs)) : kvs.length ≤ sizeLine ∧ (a == sysModules) = false ∧
    ∃ xs, KT H kvs xs ∧ h.DictOfH (tupleKind (mixKind P w)) a xs := dt_rd ok (.inl e)
end

def DGet (H : Hp) (a : Addr) (y : V) (r : Option V) : Prop :=
  (∃ kvs k, Rd H a (.dK kvs) ∧ y = kV k ∧ r = valV kvs k) ∨ ∃ kvs k b, Rd H a (.dT kvs) ∧ y = .ref b ∧ H b = some (.tup (k.map kV)) ∧ r = valV kvs k
def DPut (H : Hp) (a : Addr) (y v : V) (H' : Hp) : Prop :=
  (∃ kvs k, H a = some (.dK kvs) ∧ y = kV k ∧ kvs.length < sizeLine ∧ H' = upd H a (.dK (putK kvs k v))) ∨
  ∃ kvs k b, H a = some (.dT kvs) ∧ y = .ref b ∧ H b = some (.tup (k.map kV)) ∧ kvs.length < sizeLine ∧ H' = upd H a (.dT (putK kvs k v))
theorem DGet.k {H : Hp} {a : Addr} {kvs : List (Key × V)} {k : Key} (e : H a = some (.dK kvs)) : DGet H a (kV k) (valV kvs k) := .inl ⟨kvs, k, .inl e, rfl, rfl⟩
theorem DGet.t {H : Hp} {a b : Addr} {kvs : List (List Key × V)} {k : List Key} (e : H a = some (.dT kvs)) (eb : H b = some (.tup (k.map kV))) : DGet H a (.ref b) (valV kvs k) := .inr ⟨kvs, k, b, .inl e, rfl, eb, rfl⟩
theorem DPut.k {H : Hp} {a : Addr} {kvs : List (Key × V)} {k : Key} {v : V} (e : H a = some (.dK kvs)) (hl : kvs.length < sizeLine) : DPut H a (kV k) v (upd H a (.dK (putK kvs k v))) := .inl ⟨kvs, k, e, rfl, hl, rfl⟩
theorem DPut.t {H : Hp} {a b : Addr} {kvs : List (List Key × V)} {k : List Key} {v : V} (e : H a = some (.dT kvs)) (eb : H b = some (.tup (k.map kV))) (hl : kvs.length < sizeLine) :
    DPut H a (.ref b) v (upd H a (.dT (putK kvs k v))) := .inr ⟨kvs, k, b, e, rfl, eb, hl, rfl⟩


section
variable {X : Cx} {pins : List (Addr × Obj)} {σ : St} {H : Hp} {s : Shared} {a : Addr} {y v : V} {u r : Value} {o : Option V} {A : Around} {E : Value → Shared → Prop}

theorem Inv.big (I : Inv X pins σ H s) : sysModules < s.heap.objs.size := by
  have h : mainGlobals < s.heap.objs.size := (I.mod.glob.keeps I.bk).lt
  exact Nat.lt_trans (by decide) h

theorem d_in {Q : Value → Shared → Prop} (hu : A.units + 1 < cLine) (I : Inv X pins σ H s) (g : DGet H a y o) (ry : RelV y u) (h : ∀ s', Inv X pins σ H s' → Q (.bool o.isSome) s') :
    wpAny (model X.prog X.w) A (compareOp .In u (.ref a)) Q E s := by
  rcases g with ⟨kvs, k, e, ey, l⟩ | ⟨kvs, k, b, e, ey, eb, l⟩
  · subst ey
    obtain ⟨z, hd, vs, rel, dd⟩ := dk_rd I.hok e
    refine wpAny_in_of (kV_is ry) hd dd.mapOf ?_
    rw [← (rel.val k).isSome_eq, ← l]
    exact h _ (I.tok _)
  · subst ey
    cases (show u = Value.ref b from ry)
    obtain ⟨z, hd, xs, rel, dd⟩ := dt_rd I.hok e
    refine wpAny_in_heap (tupleKind_room_in1 hu) (key_of I.hok eb) hd dd ?_
    have q := (rel.val k).isSome_eq
    rw [Option.isSome_map] at q
    rw [← q, ← l]
    exact h _ (I.tok _)
theorem d_notIn {Q : Value → Shared → Prop} (hu : A.units + 1 < cLine) (I : Inv X pins σ H s) (g : DGet H a y o) (ry : RelV y u) (h : ∀ s', Inv X pins σ H s' → Q (.bool (!o.isSome)) s') :
    wpAny (model X.prog X.w) A (compareOp .NotIn u (.ref a)) Q E s := by
  rcases g with ⟨kvs, k, e, ey, l⟩ | ⟨kvs, k, b, e, ey, eb, l⟩
  · subst ey
    obtain ⟨z, hd, vs, rel, dd⟩ := dk_rd I.hok e
    refine wpAny_notIn_of (kV_is ry) hd dd.mapOf ?_
    rw [← (rel.val k).isSome_eq, ← l]
    exact h _ (I.tok _)
  · subst ey
    cases (show u = Value.ref b from ry)
    obtain ⟨z, hd, xs, rel, dd⟩ := dt_rd I.hok e
    refine wpAny_notIn_heap (tupleKind_room_in1 hu) (key_of I.hok eb) hd dd ?_
    have q := (rel.val k).isSome_eq
    rw [Option.isSome_map] at q
    rw [← q, ← l]
    exact h _ (I.tok _)
theorem d_write {h' : Heap} {t' : Nat} {ob : HO} (I : Inv X pins σ H s) (mu : Mut (H a)) (hs : Heap.SameBut a s.heap h') (he : ∃ q, h'.get? a = some q) (new : ObjOk X.prog X.w (upd H a ob) h' a ob) :
    Inv X pins σ (upd H a ob) { s with heap := h', toks := t' } :=
  I.write (x := a) (e := a) mu (.inl rfl) (fun b q hb z => (hs.2 b hb).trans z) he new
theorem dk_new {P : Program} {w : World} {H' : Hp} {h' : Heap} {kvs : List (Key × V)} {vs : List (Key × Value)} (z : kvs.length ≤ sizeLine) (hd : (a == sysModules) = false) (rel : KV kvs vs) (dd : h'.DictOf (mixKind P w) a vs) :
    ObjOk P w H' h' a (.dK kvs) := ⟨z, hd, vs, rel, dd⟩
theorem d_setItem {H' : Hp} {Q : Unit → Shared → Prop} (hu : A.units + 1 < cLine) (I : Inv X pins σ H s) (g : DPut H a y v H') (ry : RelV y u) (rv : RelV v r) (h : ∀ s', Inv X pins σ H' s' → Q () s') :
    wpAny (model X.prog X.w) A (setItem (.ref a) u r) Q E s := by
  rcases g with ⟨kvs, k, e, ey, l, eH⟩ | ⟨kvs, k, b, e, ey, eb, l, eH⟩
  · subst ey eH
    obtain ⟨z, hd, vs, rel, dd⟩ := dk_of I.hok e
    have hz : vs.length ≤ sizeLine := by rw [← rel.length]; exact z
    have hl : (putK kvs k v).length ≤ sizeLine := by have := length_putK kvs k v; omega
    refine wpAny_setItem_pairs (hsz := hz) (kV_is ry) dd fun h' dd' hs => h _ ?_
    have he : ∃ q, h'.get? a = some q := let ⟨q, _, _, hq, _⟩ := dd'; ⟨q, hq⟩
    exact d_write I (by rw [e]; exact True.intro) hs he (dk_new hl hd (rel.put k rv) dd')
  · subst ey eH
    cases (show u = Value.ref b from ry)
    obtain ⟨z, hd, xs, rel, dd⟩ := dt_of I.hok e
    have hz : xs.length ≤ sizeLine := by rw [← Paired.length rel]; exact z
    have hl : (putK kvs k v).length ≤ sizeLine := by have := length_putK kvs k v; omega
    refine wpAny_setItem_heap (hsz := hz) (tupleKind_room_in1 hu) (key_of I.hok eb) dd fun h' dd' hs => h _ ?_
    obtain ⟨q, es, ep, hq, h2, h3, h4, _, h5⟩ := dd'
    refine d_write I (by rw [e]; exact True.intro) hs ⟨q, hq⟩ ⟨hl, hd, _, (rel.put k eb rv).keeps fun c ys ec => ?_, q, es, ep, hq, h2, h3, h4, h5⟩
    rw [upd_ne (ne_of ec e (fun z => nomatch z))]
    exact ec
end

section
variable {X : Cx} {pins : List (Addr × Obj)} {σ : St} {H : Hp} {s : Shared} {a : Addr} {kvs : List (Key × V)} {k : Key} {u : Value} {A : Around} {E : Value → Shared → Prop}
end


section
variable {X : Cx} {o i e value : Expr} {pos pos' tpos : Pos} {td ty tv : TE}
end


theorem dk_empty {P : Program} {w : World} {H : Hp} (h : Heap) (hb : sysModules < h.objs.size) : ObjOk P w H (h.push { cls := .type "dict", data := .dict #[] }) h.objs.size (.dK []) :=
  ⟨Nat.zero_le _, beq_eq_false_iff_ne.mpr (Ne.symm (Nat.ne_of_lt hb)), [], .nil, Heap.DictOf.new h⟩
def tDNewK : TE := fun _ H Q => ∀ p, H p = none → Q (.ref p) (upd H p (.dK []))
section
variable {X : Cx} {pos : Pos}
theorem pe_dnewK : PE X (.Dict [] [] pos) tDNewK := fun pins s σ H Q I h =>
  wpAny_Dict_empty ⟨.ref s.heap.objs.size, _, I.laid (a := s.heap.objs.size) (o := .dK []) (t' := s.toks) (fun _ _ q => Heap.get?_push_of_some _ q) (Nat.le_refl _) (dk_empty s.heap I.big), rfl, h _ (I.hok.fresh (Nat.le_refl _))⟩
end

structure M2 (X : Cx) (o : Expr) (m : Str) (apos : Pos) (e f : Expr) (cpos : Pos) : Prop where
  base : attributeBase o m X.env (eval o X.env) = eval o X.env
  few : ((backTo cpos (starEach [e, f] X.env)).all (fun x => !x.1) && (backToKw cpos (keywordEach [] X.env)).all (fun x => x.1.isSome)
    && decide (([e, f] : List Expr).length + ([] : List Keyword).length + (if ([] : List Keyword).isEmpty then 0 else 1) < 30)) = true
  line : (apos.endLine == cpos.line) = true
  trees : backTo cpos (starEach [e, f] X.env) = [(false, eval e X.env), (false, eval f X.env)]

section
variable {X : Cx} {pins : List (Addr × Obj)} {σ : St} {H : Hp} {s : Shared} {a : Addr} {y d : V} {u r : Value} {o : Option V} {A : Around} {E : Value → Shared → Prop}
end

section
variable {X : Cx} {o e f : Expr} {apos cpos : Pos} {td ty tx : TE}
end

section
variable {X : Cx} {pins : List (Addr × Obj)} {σ : St} {H : Hp} {s : Shared} {a : Addr} {kvs : List (Key × V)} {A : Around} {E : Value → Shared → Prop}
end


section
variable {X : Cx} {pins : List (Addr × Obj)} {σ : St} {H : Hp} {s : Shared} {a : Addr} {y : V} {u : Value} {A : Around} {E : Value → Shared → Prop}
end
end L2

namespace Att
open PySem PySem.W PySem.Calls PyProof.Rows

section
variable {prog : Program} {w : World} {A : Around} {E : Value → Shared → Prop} {s : Shared} {K : Frag}

end
end Att

namespace L2
open PySem PySem.Spec PyProof.Rows

end L2

namespace L2
open PySem PySem.Spec PyProof.Rows

end L2

namespace L2
open PySem PySem.Spec PyProof.Rows

section
variable {P : Program} {w : World} {K : PySem.W.Frag} {mg : Str → Option Value} {base : Heap}
end
section
variable {X : Cx}
end

section
variable {κ : Type} [DecidableEq κ]
end
end L2
set_option Elab.async false
set_option linter.all false
set_option maxRecDepth 100000
/-! KT: what expressions, statements and defs are worth, as plain functions over data (PyData). No heap here. -/
namespace KT
open PySem

/-! ### data without lists -/
mutual
def lf : PyData → Bool
  | .none => true
  | .bool _ => true
  | .int _ => true
  | .str _ => true
  | .tuple xs => lfs xs
  | .list _ => false
  | .dict _ => false
def lfs : List PyData → Bool
  | [] => true
  | x :: xs => lf x && lfs xs
end

/-! ### environments -/
/-- what a name holds: a parameter's datum, a local's (its lists are younger than the def's entry), a list of the def's own (not shared), one whose items may be lists that stay, a caught error -/
inductive Slot where
  | par (d : PyData)
  | loc (d : PyData)
  | own (ds : List PyData)
  | own2 (ds : List PyData)
  | dct (ks : List PyData)
  | ex (c : Nat)
abbrev Rho := List (Option Slot)
/-- what an expression is worth: a datum and how young its lists are (0: nothing is known; 1: younger than the def's entry; 2: younger than the statement's start), or an error by its class -/
inductive RE where
  | ok (l : Nat) (d : PyData)
  | exc (c : Nat)
/-- what a call is worth -/
inductive RC where
  | ok (d : PyData)
  | exc (c : Nat)
/-- a row of data: arguments, or what a loop walks -/
inductive RI where
  | ok (l : Nat) (ds : List PyData)
  | exc (c : Nat)
/-- what a statement leads to -/
inductive RS where
  | next (ρ : Rho)
  | ret (d : PyData)
  | exc (c : Nat) (ρ : Rho)
  | brk (ρ : Rho)
  | cont (ρ : Rho)
abbrev FE := Rho → Option RE
abbrev FI := Rho → Option RI
abbrev FS := Rho → Option RS
abbrev FC := List PyData → Option RC
def bindE (o : Option RE) (k : Nat → PyData → Option RE) : Option RE :=
  match o with
  | none => none
  | some (.exc c) => some (.exc c)
  | some (.ok l d) => k l d
def big : Nat := 100000
def lim : Nat := 2 ^ 256

/-! ### constants, names, operations -/
def eC (d : PyData) : FE := fun _ => some (.ok 2 d)
def eVar (i : Nat) : FE := fun ρ => match ρ[i]? with
  | some (some (.par d)) => some (.ok 0 d)
  | some (some (.loc d)) => some (.ok 1 d)
  | some (some (.own ds)) => some (.ok 1 (.list ds))
  | some (some (.own2 ds)) => some (.ok 1 (.list ds))
  | _ => none
/-- fr: what it makes holds lists that are new alone -/
def e2 (op : PyData → PyData → Option PyData) (fr : Bool) (fa fb : FE) : FE := fun ρ => bindE (fa ρ) fun l x => bindE (fb ρ) fun m y => (op x y).map fun d => .ok (if fr then 2 else min l m) d
def e1 (op : PyData → Option PyData) (fr : Bool) (fa : FE) : FE := fun ρ => bindE (fa ρ) fun l x => (op x).map fun d => .ok (if fr then 2 else l) d
def dAdd : PyData → PyData → Option PyData
  | .int i, .int j => some (.int (i + j))
  | .str x, .str y => if x.length + y.length ≤ big then some (.str (x ++ y)) else none
  | .tuple xs, .tuple ys => if (lfs xs && lfs ys && decide (xs.length + ys.length ≤ big)) = true then some (.tuple (xs ++ ys)) else none
  | .list xs, .list ys => if (lfs xs && lfs ys && decide (xs.length + ys.length ≤ big)) = true then some (.list (xs ++ ys)) else none
  | _, _ => none
def dSub : PyData → PyData → Option PyData
  | .int i, .int j => some (.int (i - j))
  | _, _ => none
def CMulD (i j : Int) : Prop := i.natAbs < 2 ^ 64 ∨ j.natAbs < 2 ^ 64 ∨ (i.natAbs < lim ∧ j.natAbs < lim)
instance (i j : Int) : Decidable (CMulD i j) := by unfold CMulD; infer_instance
def dMul : PyData → PyData → Option PyData
  | .int i, .int j => if CMulD i j then some (.int (i * j)) else none
  | .list xs, .int k => if (lfs xs && decide (xs.length * k.toNat ≤ big) && decide (k.natAbs ≤ big)) = true then some (.list (List.replicate k.toNat xs).flatten) else none
  | _, _ => none
def dDiv : PyData → PyData → Option PyData
  | .int i, .int j => if 0 < j ∧ j.natAbs < lim then some (.int (i / j)) else none
  | _, _ => none
def dMod : PyData → PyData → Option PyData
  | .int i, .int j => if 0 < j then some (.int (i % j)) else none
  | _, _ => none
def dPow : PyData → PyData → Option PyData
  | .int i, .int j => if 0 ≤ j ∧ j ≤ 1000 ∧ i.natAbs < 2 ^ 64 then some (.int (i ^ j.toNat)) else none
  | _, _ => none
def dNeg : PyData → Option PyData
  | .int i => some (.int (-i))
  | _ => none
def eqOk (x y : PyData) : Bool := x.canLay0 && y.canLay0 && decide (min x.depth y.depth ≤ 60)
def dEqB : PyData → PyData → Option Bool
  | .int i, .int j => some (i == j)
  | .str i, .str j => some (i == j)
  | .bool i, .bool j => some (i == j)
  | x, y => if eqOk x y = true then some (PyData.eqv x y) else none
def dEq (x y : PyData) : Option PyData := (dEqB x y).map .bool
def dNe (x y : PyData) : Option PyData := (dEqB x y).map fun b => .bool (!b)
def dLt : PyData → PyData → Option PyData
  | .int i, .int j => some (.bool (decide (i < j)))
  | _, _ => none
def dLe : PyData → PyData → Option PyData
  | .int i, .int j => some (.bool (decide (i ≤ j)))
  | _, _ => none
def dGt : PyData → PyData → Option PyData
  | .int i, .int j => some (.bool (decide (j < i)))
  | _, _ => none
def dGe : PyData → PyData → Option PyData
  | .int i, .int j => some (.bool (decide (j ≤ i)))
  | _, _ => none
def inOk (x : PyData) (ys : List PyData) : Bool := x.canLay0 && PyData.canLayAll0 ys && decide (min (PyData.depthAll ys) x.depth ≤ 60)
def dInB : PyData → PyData → Option Bool
  | x, .tuple ys => if inOk x ys = true then some (ys.any fun y => PyData.eqv y x) else none
  | x, .list ys => if inOk x ys = true then some (ys.any fun y => PyData.eqv y x) else none
  | _, _ => none
def dIn (x y : PyData) : Option PyData := (dInB x y).map .bool
def dNotIn (x y : PyData) : Option PyData := (dInB x y).map fun b => .bool (!b)
def isNone : PyData → Bool
  | .none => true
  | _ => false
def dNotN (x y : PyData) : Option PyData := if isNone y = true then some (.bool (!isNone x)) else none
def ixP (n : Nat) (i : Int) : Option Nat := if 0 ≤ i then (if i < n then some i.toNat else none) else if -(n : Int) ≤ i then some (i + n).toNat else none
def atP {α : Type} (xs : List α) (i : Int) : Option α := (ixP xs.length i).bind fun j => xs[j]?
def dIx : PyData → PyData → Option PyData
  | .tuple xs, .int i => atP xs i
  | .list xs, .int i => atP xs i
  | .str z, .int i => if z.length ≤ big then (atP z.cps.toList i).map fun c => .str ⟨#[c]⟩ else none
  | _, _ => none
def sxP (n d : Nat) : Option Int → Nat
  | none => d
  | some v => if v < 0 then (v + n).toNat else min v.toNat n
def cutP {α : Type} (xs : List α) (lo hi : Option Int) : List α := (xs.drop (sxP xs.length 0 lo)).take (sxP xs.length xs.length hi - sxP xs.length 0 lo)
def dSl (lo hi : Option Int) : PyData → Option PyData
  | .tuple xs => if lfs xs = true then some (.tuple (cutP xs lo hi)) else none
  | .list xs => if lfs xs = true then some (.list (cutP xs lo hi)) else none
  | _ => none
def eAdd : FE → FE → FE := e2 dAdd true
def eSub : FE → FE → FE := e2 dSub true
def eMul : FE → FE → FE := e2 dMul true
def eDiv : FE → FE → FE := e2 dDiv true
def eMod : FE → FE → FE := e2 dMod true
def ePow : FE → FE → FE := e2 dPow true
def eNeg : FE → FE := e1 dNeg true
def eEq : FE → FE → FE := e2 dEq true
def eNe : FE → FE → FE := e2 dNe true
def eLt : FE → FE → FE := e2 dLt true
def eLe : FE → FE → FE := e2 dLe true
def eGt : FE → FE → FE := e2 dGt true
def eGe : FE → FE → FE := e2 dGe true
def eIn : FE → FE → FE := e2 dIn true
def eNotIn : FE → FE → FE := e2 dNotIn true
def eNotN : FE → FE → FE := e2 dNotN true
def eIx : FE → FE → FE := e2 dIx false
/-- a part of a slice -/
inductive RO where
  | ok (i : Option Int)
  | exc (c : Nat)
abbrev FO := Rho → Option RO
def oNone : FO := fun _ => some (.ok none)
def oSome (f : FE) : FO := fun ρ => match f ρ with
  | some (.ok _ (.int i)) => some (.ok (some i))
  | some (.exc c) => some (.exc c)
  | _ => none
def eSl (f : FE) (lo hi : FO) : FE := fun ρ => bindE (f ρ) fun _ x => match lo ρ with
  | some (.ok l) => (match hi ρ with
    | some (.ok h) => (dSl l h x).map fun d => .ok 2 d
    | some (.exc c) => some (.exc c)
    | none => none)
  | some (.exc c) => some (.exc c)
  | none => none
/-! ### and, or, not, if -/
def eAnd (fa fb : FE) : FE := fun ρ => bindE (fa ρ) fun _ x => match x with
  | .bool true => fb ρ
  | .bool false => some (.ok 2 (.bool false))
  | _ => none
def eOr (fa fb : FE) : FE := fun ρ => bindE (fa ρ) fun _ x => match x with
  | .bool true => some (.ok 2 (.bool true))
  | .bool false => fb ρ
  | _ => none
def eNot (fa : FE) : FE := fun ρ => bindE (fa ρ) fun _ x => match x with
  | .bool b => some (.ok 2 (.bool (!b)))
  | _ => none
def eIf (fc fa fb : FE) : FE := fun ρ => bindE (fc ρ) fun _ x => match x with
  | .bool true => fa ρ
  | .bool false => fb ρ
  | _ => none
/-! ### rows, displays, calls -/
def eArgs : List FE → FI
  | [], _ => some (.ok 2 [])
  | f :: fs, ρ => match f ρ with
    | none => none
    | some (.exc c) => some (.exc c)
    | some (.ok l d) => match eArgs fs ρ with
      | none => none
      | some (.exc c) => some (.exc c)
      | some (.ok m ds) => some (.ok (min l m) (d :: ds))
def bindI (o : Option RI) (k : Nat → List PyData → Option RE) : Option RE :=
  match o with
  | none => none
  | some (.exc c) => some (.exc c)
  | some (.ok l ds) => k l ds
def eTup (fs : List FE) : FE := fun ρ => bindI (eArgs fs ρ) fun l ds => some (.ok l (.tuple ds))
def eLst (fs : List FE) : FE := fun ρ => bindI (eArgs fs ρ) fun _ ds => if lfs ds = true then some (.ok 2 (.list ds)) else none
def ofRC : Option RC → Option RE
  | none => none
  | some (.exc c) => some (.exc c)
  | some (.ok d) => some (.ok 2 d)
def eCall (g : FC) (fs : List FE) : FE := fun ρ => bindI (eArgs fs ρ) fun _ ds => ofRC (g ds)
/-! ### Python's own calls -/
def dLen : PyData → Option PyData
  | .tuple xs => some (.int xs.length)
  | .list xs => some (.int xs.length)
  | .str z => if z.length ≤ big then some (.int z.length) else none
  | _ => none
def dInt : PyData → Option PyData
  | .int i => some (.int i)
  | .bool b => some (.int (if b then 1 else 0))
  | _ => none
def dTuple : PyData → Option PyData
  | .list xs => if lfs xs = true then some (.tuple xs) else none
  | .tuple xs => if lfs xs = true then some (.tuple xs) else none
  | _ => none
inductive Ty where
  | int | bool | str | tuple | list
def isTy : Ty → PyData → Bool
  | .int, .int _ => true
  | .int, .bool _ => true
  | .bool, .bool _ => true
  | .str, .str _ => true
  | .tuple, .tuple _ => true
  | .list, .list _ => true
  | _, _ => false
def dIs (t : Ty) : PyData → Option PyData
  | .dict _ => none
  | d => some (.bool (isTy t d))
def eLen : FE → FE := e1 dLen true
def eInt : FE → FE := e1 dInt true
def eTuple : FE → FE := e1 dTuple true
def eIs (t : Ty) : FE → FE := e1 (dIs t) true
/-! ### what is walked -/
def iSeq (f : FE) : FI := fun ρ => match f ρ with
  | some (.ok l (.list ds)) => if lfs ds = true then some (.ok l ds) else none
  | some (.ok _ (.tuple ds)) => if lfs ds = true then some (.ok 2 ds) else none
  | some (.exc c) => some (.exc c)
  | _ => none
def numsTo (n : Nat) : List PyData := (List.range n).map fun (k : Nat) => .int (k : Int)
def iR1 (f : FE) : FI := fun ρ => match f ρ with
  | some (.ok _ (.int n)) => if n.natAbs ≤ big then some (.ok 2 (numsTo n.toNat)) else none
  | some (.exc c) => some (.exc c)
  | _ => none
/-- range(a, -1, -1) -/
def downFrom (n : Nat) : List PyData := (List.range n).map fun (k : Nat) => .int ((n : Int) - 1 - (k : Int))
def iDown (f : FE) : FI := fun ρ => match f ρ with
  | some (.ok _ (.int a)) => if a.natAbs ≤ big then some (.ok 2 (downFrom (a + 1).toNat)) else none
  | some (.exc c) => some (.exc c)
  | _ => none
/-- a def as a value: by its address -/
def fnD (a : Nat) : PyData := .dict [(.none, .int a)]
/-- a call of what a name holds, gs: the defs that it may be -/
def eCallV (i : Nat) (gs : List (Nat × FC)) (fs : List FE) : FE := fun ρ => match ρ[i]? with
  | some (some (.par (.dict [(.none, .int a)]))) => (match gs.lookup a.toNat with
    | some g => bindI (eArgs fs ρ) fun _ ds => ofRC (g ds)
    | none => none)
  | _ => none
def dListRng : PyData → Option PyData
  | .int n => if n.natAbs ≤ big then some (.list (numsTo n.toNat)) else none
  | _ => none
def eListRng : FE → FE := e1 dListRng true
def enumFrom : Nat → List PyData → List PyData
  | _, [] => []
  | n, d :: ds => .tuple [.int (n : Int), d] :: enumFrom (n + 1) ds
/-! ### a list comprehension: ids, the names that its element reads from around it -/
def demote : Option (Option Slot) → Option Slot
  | some (some (.par d)) => some (.par d)
  | some (some (.loc d)) => some (.par d)
  | some (some (.own ds)) => some (.par (.list ds))
  | _ => none
def compGo (elt : FE) (env : Rho) : List PyData → Option (List PyData)
  | [] => some []
  | d :: ds => match elt (some (.par d) :: env) with
    | some (.ok _ x) => if lf x = true then (compGo elt env ds).map (x :: ·) else none
    | _ => none
def eComp (it : FI) (ids : List Nat) (elt : FE) : FE := fun ρ => match it ρ with
  | none => none
  | some (.exc c) => some (.exc c)
  | some (.ok _ ds) => if ds.length ≤ big then (compGo elt (ids.map fun i => demote ρ[i]?) ds).map fun xs => .ok 2 (.list xs) else none

/-! ### statements -/
def asg (l : Nat) (d : PyData) : Option Slot :=
  if lf d = true then some (.loc d) else if 2 ≤ l then (match d with
    | .list ds => if lfs ds = true then some (.own ds) else some (.loc d)
    | _ => some (.loc d)) else none
def bindS (o : Option RE) (ρ : Rho) (k : Nat → PyData → Option RS) : Option RS :=
  match o with
  | none => none
  | some (.exc c) => some (.exc c ρ)
  | some (.ok l d) => k l d
def sNext : FS := fun ρ => some (.next ρ)
def sSeq (a b : FS) : FS := fun ρ => match a ρ with
  | some (.next ρ') => b ρ'
  | r => r
def sSet (i : Nat) (f : FE) : FS := fun ρ => bindS (f ρ) ρ fun l d => (asg l d).map fun s => .next (ρ.set i (some s))
def sExpr (f : FE) : FS := fun ρ => bindS (f ρ) ρ fun _ _ => some (.next ρ)
def sRet (f : FE) : FS := fun ρ => bindS (f ρ) ρ fun l d => if (lf d || decide (1 ≤ l)) = true then some (.ret d) else none
def sIf (c : FE) (a b : FS) : FS := fun ρ => bindS (c ρ) ρ fun _ d => match d with
  | .bool true => a ρ
  | .bool false => b ρ
  | _ => none
def sAppend (i : Nat) (f : FE) : FS := fun ρ => match ρ[i]? with
  | some (some (.own xs)) => bindS (f ρ) ρ fun _ d => if (lf d && decide (xs.length < big)) = true then some (.next (ρ.set i (some (.own (xs ++ [d]))))) else none
  | _ => none
def sExtend (i : Nat) (f : FE) : FS := fun ρ => match ρ[i]? with
  | some (some (.own xs)) => bindS (f ρ) ρ fun _ d => match d with
    | .list ys => if (lfs ys && decide (xs.length + ys.length ≤ big)) = true then some (.next (ρ.set i (some (.own (xs ++ ys))))) else none
    | .tuple ys => if (lfs ys && decide (xs.length + ys.length ≤ big)) = true then some (.next (ρ.set i (some (.own (xs ++ ys))))) else none
    | _ => none
  | _ => none
/-- x_j = x_i.pop() -/
def sPop (j i : Nat) : FS := fun ρ => match ρ[i]? with
  | some (some (.own xs)) => (match xs[xs.length - 1]? with
    | some d => if i = j then none else some (.next ((ρ.set i (some (.own xs.dropLast))).set j (some (.loc d))))
    | none => none)
  | _ => none
def sRaise (c : Nat) : FS := fun ρ => some (.exc c ρ)
/-- targets of a loop or an assignment -/
abbrev FT := PyData → Rho → Option Rho
def tgName (i : Nat) : FT := fun d ρ => some (ρ.set i (some (.loc d)))
def tgPair (i j : Nat) : FT := fun d ρ => match d with
  | .tuple [x, y] => some ((ρ.set i (some (.loc x))).set j (some (.loc y)))
  | _ => none
def forGo (tg : FT) (body : FS) : List PyData → Rho → Option RS
  | [], ρ => some (.next ρ)
  | d :: ds, ρ => match tg d ρ with
    | none => none
    | some ρ1 => match body ρ1 with
      | some (.next ρ2) => forGo tg body ds ρ2
      | some (.cont ρ2) => forGo tg body ds ρ2
      | some (.brk ρ2) => some (.next ρ2)
      | r => r
def sFor (it : FI) (tg : FT) (body : FS) : FS := fun ρ => match it ρ with
  | none => none
  | some (.exc c) => some (.exc c ρ)
  | some (.ok l ds) => if 2 ≤ l then forGo tg body ds ρ else none
/-- over a name's list or tuple: its list is no more changed -/
def sForV (i : Nat) (tg : FT) (body : FS) : FS := fun ρ => match ρ[i]? with
  | some (some (.own xs)) => forGo tg body xs (ρ.set i (some (.loc (.list xs))))
  | some (some (.par (.list xs))) => if lfs xs = true then forGo tg body xs ρ else none
  | some (some (.loc (.list xs))) => if lfs xs = true then forGo tg body xs ρ else none
  | some (some (.par (.tuple xs))) => if lfs xs = true then forGo tg body xs ρ else none
  | some (some (.loc (.tuple xs))) => if lfs xs = true then forGo tg body xs ρ else none
  | _ => none
/-- over enumerate of a name's tuple -/
def sForET (i : Nat) (tg : FT) (body : FS) : FS := fun ρ => match ρ[i]? with
  | some (some (.par (.tuple xs))) => if lfs xs = true then forGo tg body (enumFrom 0 xs) ρ else none
  | some (some (.loc (.tuple xs))) => if lfs xs = true then forGo tg body (enumFrom 0 xs) ρ else none
  | _ => none
def whileGo (c : FE) (body : FS) : Nat → Rho → Option RS
  | 0, _ => none
  | n + 1, ρ => bindS (c ρ) ρ fun _ d => match d with
    | .bool true => (match body ρ with
      | some (.next ρ') => whileGo c body n ρ'
      | some (.cont ρ') => whileGo c body n ρ'
      | some (.brk ρ') => some (.next ρ')
      | r => r)
    | .bool false => some (.next ρ)
    | _ => none
def wFuel : Nat := 100000
def sWhile (c : FE) (body : FS) : FS := fun ρ => whileGo c body wFuel ρ
/-! ### defs -/
def runB (n : Nat) (b : FS) : FC := fun ds => match b (ds.map (fun d => some (.par d)) ++ List.replicate (n - ds.length) none) with
  | some (.ret d) => some (.ok d)
  | some (.next _) => some (.ok .none)
  | some (.exc c _) => some (.exc c)
  | _ => none
end KT
set_option Elab.async false
set_option linter.all false
set_option maxRecDepth 100000
/-! KT: data of the program as PyData, how a heap bears it, and what an expression and a statement are worth as plain functions of an environment. -/
namespace KT
open PySem L2

/-! ### how a heap bears a datum: P says which addresses its lists may have (P true: of one that is frozen) -/
abbrev PP := Bool → Addr → Prop
def Rl (P : PP) (H : Hp) (a : Addr) (vs : List V) : Prop := (P false a ∧ H a = some (.lst vs)) ∨ (P true a ∧ ∃ o, H a = some (.frz o (.lst vs)))
theorem Rl.rd {P : PP} {H : Hp} {a : Addr} {vs : List V} (h : Rl P H a vs) : Rd H a (.lst vs) := h.elim (fun x => .inl x.2) fun x => .inr x.2
mutual
def Rep (P : PP) (H : Hp) : PyData → V → Prop
  | .none, v => v = .non
  | .bool b, v => v = .bl b
  | .int i, v => v = .int i
  | .str x, v => v = .str x
  | .tuple ds, v => ∃ a vs, v = .ref a ∧ H a = some (.tup vs) ∧ Reps P H ds vs
  | .list ds, v => ∃ a vs, v = .ref a ∧ Rl P H a vs ∧ Reps P H ds vs
  | .dict kvs, v => ∃ a : Nat, kvs = [(.none, .int a)] ∧ v = .ref a
def Reps (P : PP) (H : Hp) : List PyData → List V → Prop
  | [], vs => vs = []
  | d :: ds, vs => ∃ v r, vs = v :: r ∧ Rep P H d v ∧ Reps P H ds r
end
mutual
theorem Rep.mono {P P' : PP} {H H' : Hp} (hT : ∀ a vs, H a = some (.tup vs) → H' a = some (.tup vs)) (hL : ∀ a vs, Rl P H a vs → Rl P' H' a vs) :
    ∀ (d : PyData) (v : V), Rep P H d v → Rep P' H' d v
  | .none, _, h => h
  | .bool _, _, h => h
  | .int _, _, h => h
  | .str _, _, h => h
  | .tuple ds, _, ⟨a, vs, e, h, r⟩ => ⟨a, vs, e, hT a vs h, Reps.mono hT hL ds vs r⟩
  | .list ds, _, ⟨a, vs, e, h, r⟩ => ⟨a, vs, e, hL a vs h, Reps.mono hT hL ds vs r⟩
  | .dict _, _, h => h
theorem Reps.mono {P P' : PP} {H H' : Hp} (hT : ∀ a vs, H a = some (.tup vs) → H' a = some (.tup vs)) (hL : ∀ a vs, Rl P H a vs → Rl P' H' a vs) :
    ∀ (ds : List PyData) (vs : List V), Reps P H ds vs → Reps P' H' ds vs
  | [], _, h => h
  | d :: ds, _, ⟨v, r, e, h, t⟩ => ⟨v, r, e, Rep.mono hT hL d v h, Reps.mono hT hL ds r t⟩
end
theorem Rd.same {H H' : Hp} (s : Same H H') {a : Addr} {u : HO} (h : Rd H a u) : Rd H' a u := by
  rcases h with h | ⟨o, h⟩
  · exact .inl (s _ _ h)
  · exact .inr ⟨o, s _ _ h⟩
theorem Rl.same {P : PP} {H H' : Hp} (s : Same H H') {a : Addr} {vs : List V} (h : Rl P H a vs) : Rl P H' a vs := by
  rcases h with ⟨p, h⟩ | ⟨p, o, h⟩
  · exact .inl ⟨p, s _ _ h⟩
  · exact .inr ⟨p, o, s _ _ h⟩
theorem Rl.imp {P P' : PP} {H : Hp} (hP : ∀ z a, P z a → P' z a) {a : Addr} {vs : List V} (h : Rl P H a vs) : Rl P' H a vs := by
  rcases h with ⟨p, h⟩ | ⟨p, o, h⟩
  · exact .inl ⟨hP _ _ p, h⟩
  · exact .inr ⟨hP _ _ p, o, h⟩
theorem Rep.same {P : PP} {H H' : Hp} (s : Same H H') {d : PyData} {v : V} (h : Rep P H d v) : Rep P H' d v :=
  Rep.mono (fun _ _ e => s _ _ e) (fun _ _ r => r.same s) d v h
theorem Reps.same {P : PP} {H H' : Hp} (s : Same H H') {d : List PyData} {v : List V} (h : Reps P H d v) : Reps P H' d v :=
  Reps.mono (fun _ _ e => s _ _ e) (fun _ _ r => r.same s) d v h
theorem Rep.imp {P P' : PP} {H : Hp} (hP : ∀ z a, P z a → P' z a) {d : PyData} {v : V} (h : Rep P H d v) : Rep P' H d v :=
  Rep.mono (fun _ _ e => e) (fun _ _ r => r.imp hP) d v h
theorem Reps.imp {P P' : PP} {H : Hp} (hP : ∀ z a, P z a → P' z a) {d : List PyData} {v : List V} (h : Reps P H d v) : Reps P' H d v :=
  Reps.mono (fun _ _ e => e) (fun _ _ r => r.imp hP) d v h
mutual
theorem Rep.free {P P' : PP} {H H' : Hp} (hT : ∀ a vs, H a = some (.tup vs) → H' a = some (.tup vs)) : ∀ (d : PyData) (v : V), lf d = true → Rep P H d v → Rep P' H' d v
  | .none, _, _, h => h
  | .bool _, _, _, h => h
  | .int _, _, _, h => h
  | .str _, _, _, h => h
  | .tuple ds, _, f, ⟨a, vs, e, h, r⟩ => ⟨a, vs, e, hT a vs h, Reps.free hT ds vs (by simpa [lf] using f) r⟩
  | .list _, _, f, _ => by simp [lf] at f
  | .dict _, _, f, _ => by simp [lf] at f
theorem Reps.free {P P' : PP} {H H' : Hp} (hT : ∀ a vs, H a = some (.tup vs) → H' a = some (.tup vs)) : ∀ (ds : List PyData) (vs : List V), lfs ds = true → Reps P H ds vs → Reps P' H' ds vs
  | [], _, _, h => h
  | d :: ds, _, f, ⟨v, r, e, h, t⟩ => by
    have f' : lf d = true ∧ lfs ds = true := by simpa [lfs] using f
    exact ⟨v, r, e, Rep.free hT d v f'.1 h, Reps.free hT ds r f'.2 t⟩
end
theorem Rep.nl {P P' : PP} {H : Hp} {d : PyData} {v : V} (f : lf d = true) (h : Rep P H d v) : Rep P' H d v := Rep.free (fun _ _ e => e) d v f h
theorem Reps.nl {P P' : PP} {H : Hp} {d : List PyData} {v : List V} (f : lfs d = true) (h : Reps P H d v) : Reps P' H d v := Reps.free (fun _ _ e => e) d v f h
theorem Reps.length {P : PP} {H : Hp} : ∀ {ds : List PyData} {vs : List V}, Reps P H ds vs → vs.length = ds.length
  | [], _, h => by cases (show _ = _ from h); rfl
  | d :: ds, _, ⟨v, r, e, _, t⟩ => by subst e; simp [Reps.length t]
theorem Reps.get {P : PP} {H : Hp} : ∀ {ds : List PyData} {vs : List V} {i : Nat} {d : PyData}, Reps P H ds vs → ds[i]? = some d → ∃ v, vs[i]? = some v ∧ Rep P H d v
  | [], _, _, _, _, e => by simp at e
  | d :: ds, _, 0, d', ⟨v, r, e, h, t⟩, q => by subst e; simp at q; subst q; exact ⟨v, rfl, h⟩
  | d :: ds, _, i + 1, d', ⟨v, r, e, h, t⟩, q => by
    subst e
    obtain ⟨u, q1, q2⟩ := Reps.get (i := i) t (by simpa using q)
    exact ⟨u, by simpa using q1, q2⟩
theorem Reps.append {P : PP} {H : Hp} : ∀ {ds es : List PyData} {vs us : List V}, Reps P H ds vs → Reps P H es us → Reps P H (ds ++ es) (vs ++ us)
  | [], _, _, _, h, t => by cases (show _ = _ from h); exact t
  | d :: ds, _, _, _, ⟨v, r, e, h, t⟩, q => by subst e; exact ⟨v, _, rfl, h, Reps.append t q⟩
theorem Reps.one {P : PP} {H : Hp} {d : PyData} {v : V} (h : Rep P H d v) : Reps P H [d] [v] := ⟨v, [], rfl, h, rfl⟩
theorem Reps.drop {P : PP} {H : Hp} : ∀ {ds : List PyData} {vs : List V} (n : Nat), Reps P H ds vs → Reps P H (ds.drop n) (vs.drop n)
  | _, _, 0, h => h
  | [], _, n + 1, h => by cases (show _ = _ from h); exact rfl
  | d :: ds, _, n + 1, ⟨v, r, e, h, t⟩ => by subst e; exact Reps.drop n t
theorem Reps.take {P : PP} {H : Hp} : ∀ {ds : List PyData} {vs : List V} (n : Nat), Reps P H ds vs → Reps P H (ds.take n) (vs.take n)
  | _, _, 0, h => rfl
  | [], _, n + 1, h => by cases (show _ = _ from h); exact rfl
  | d :: ds, _, n + 1, ⟨v, r, e, h, t⟩ => by subst e; exact ⟨v, _, rfl, h, Reps.take n t⟩
theorem Reps.reverse {P : PP} {H : Hp} : ∀ {ds : List PyData} {vs : List V}, Reps P H ds vs → Reps P H ds.reverse vs.reverse
  | [], _, h => by cases (show _ = _ from h); exact rfl
  | d :: ds, _, ⟨v, r, e, h, t⟩ => by
    subst e
    rw [List.reverse_cons, List.reverse_cons]
    exact Reps.append (Reps.reverse t) (Reps.one h)
/-! ### a datum in the heap at hand, for what the library says of data -/
section
variable {X : Cx} {pins : List (Addr × Obj)} {σ : St} {H : Hp} {s : Shared} {P : PP}
mutual
theorem reads_of (I : Inv X pins σ H s) : ∀ (d : PyData) (v : V) (u : Value), d.canLay0 = true → Rep P H d v → RelV v u → ∃ as, Reads s.heap u d as
  | .none, _, _, _, h, r => by cases (show _ = _ from h); cases r; exact ⟨_, .none⟩
  | .bool b, _, _, _, h, r => by cases (show _ = _ from h); cases r; exact ⟨_, .bool b⟩
  | .int i, _, _, _, h, r => by cases (show _ = _ from h); obtain ⟨t, rfl⟩ := r; exact ⟨_, .int i t⟩
  | .str x, _, _, _, h, r => by cases (show _ = _ from h); obtain ⟨t, rfl⟩ := r; exact ⟨_, .str x t⟩
  | .tuple ds, _, _, c, ⟨a, vs, e, h, t⟩, r => by
    subst e; cases r
    obtain ⟨its, rs, ⟨o, ho, hc, n, hd⟩, _⟩ := I.tuple (SqT.of h)
    obtain ⟨as, q⟩ := readsAll_of I ds vs its (by simpa [PyData.canLay0] using c) t rs
    exact ⟨_, .tuple ho hc hd q⟩
  | .list ds, _, _, c, ⟨a, vs, e, h, t⟩, r => by
    subst e; cases r
    obtain ⟨its, rs, ⟨o, n, ho, hc, hd0, hd⟩, _⟩ := I.list (.inl h.rd)
    obtain ⟨as, q⟩ := readsAll_of I ds vs its (by simpa [PyData.canLay0] using c) t rs
    exact ⟨_, .list ho hc hd q⟩
  | .dict _, _, _, c, _, _ => by simp [PyData.canLay0] at c
theorem readsAll_of (I : Inv X pins σ H s) : ∀ (ds : List PyData) (vs : List V) (us : List Value), PyData.canLayAll0 ds = true → Reps P H ds vs → Vals vs us → ∃ as, ReadsAll s.heap us ds as
  | [], _, _, _, h, r => by cases (show _ = _ from h); cases r; exact ⟨_, .nil⟩
  | d :: ds, _, _, c, ⟨v, t, e, h, hs⟩, r => by
    subst e
    have c' : d.canLay0 = true ∧ PyData.canLayAll0 ds = true := by simpa [PyData.canLayAll0] using c
    cases r with
    | cons r1 r2 =>
      obtain ⟨as, q⟩ := reads_of I d v _ c'.1 h r1
      obtain ⟨bs, q'⟩ := readsAll_of I ds t _ c'.2 hs r2
      exact ⟨_, .cons q q'⟩
end
end

def PL (H₀ Hs : Hp) : Nat → PP
  | 0 => fun _ _ => True
  | 1 => fun z a => z = false ∧ H₀ a = none
  | _ => fun z a => z = false ∧ Hs a = none
theorem PL.le {H₀ Hs : Hp} (s : Same H₀ Hs) {l m : Nat} (h : l ≤ m) {z : Bool} {a : Addr} (p : PL H₀ Hs m z a) : PL H₀ Hs l z a := by
  match l, m with
  | 0, _ => exact trivial
  | 1, 1 => exact p
  | 1, m + 2 => exact ⟨p.1, s.free p.2⟩
  | l + 2, m + 2 => exact p
  | l + 1, 0 => omega
  | l + 2, 1 => omega
/-- a caught error of the class c: its object, with no dict of its own -/
def XRep (cv : Nat → Value) (H : Hp) (c : Nat) (a : Addr) : Prop := ∃ φ, H a = some (.ext φ) ∧ ∀ h, φ h → ∃ o, h.get? a = some o ∧ o.cls = cv c ∧ o.dict = none ∧ ∃ vs, o.data = .fields vs
theorem XRep.same {cv : Nat → Value} {H H' : Hp} {c : Nat} {a : Addr} (s : Same H H') (h : XRep cv H c a) : XRep cv H' c a := let ⟨φ, e, r⟩ := h; ⟨φ, s _ _ e, r⟩
/-- a dict of True: its keys whole numbers, or tuples within tuples -/
def DR (H : Hp) (ks : List PyData) (a : Addr) : Prop := (∃ is : List Int, ks = is.map .int ∧ H a = some (.dK (is.map fun i => (.inl i, .bl true)))) ∨ (ks ≠ [] ∧ H a = some (.dN ks))
theorem DR.same {H H' : Hp} {ks : List PyData} {a : Addr} (s : Same H H') (h : DR H ks a) : DR H' ks a := by
  rcases h with ⟨is, e, h⟩ | ⟨n, h⟩
  · exact .inl ⟨is, e, s _ _ h⟩
  · exact .inr ⟨n, s _ _ h⟩
def VS (cv : Nat → Value) (H₀ : Hp) (o : Option (Option V)) (H : Hp) : Slot → Prop
  | .par d => ∃ v, o = some (some v) ∧ Rep (fun _ _ => True) H d v
  | .loc d => ∃ v, o = some (some v) ∧ Rep (fun z a => z = false ∧ H₀ a = none) H d v
  | .own ds => ∃ v, o = some (some v) ∧ Rep (fun z a => z = false ∧ H₀ a = none) H (.list ds) v
  | .own2 ds => ∃ v, o = some (some v) ∧ Rep (fun z a => z = false ∧ H₀ a = none) H (.list ds) v
  | .dct ks => ∃ a, o = some (some (.ref a)) ∧ DR H ks a
  | .ex c => ∃ a, o = some (some (.ref a)) ∧ XRep cv H c a
theorem VS.same {cv : Nat → Value} {H₀ H H' : Hp} {o : Option (Option V)} (s : Same H H') : ∀ {t : Slot}, VS cv H₀ o H t → VS cv H₀ o H' t
  | .par _, ⟨v, e, h⟩ => ⟨v, e, h.same s⟩
  | .loc _, ⟨v, e, h⟩ => ⟨v, e, h.same s⟩
  | .own _, ⟨v, e, h⟩ => ⟨v, e, h.same s⟩
  | .own2 _, ⟨v, e, h⟩ => ⟨v, e, h.same s⟩
  | .dct _, ⟨a, e, h⟩ => ⟨a, e, h.same s⟩
  | .ex _, ⟨a, e, h⟩ => ⟨a, e, h.same s⟩
/-- the world of an expression: the def's entry heap, the statement's start, the environment -/
structure G (cv : Nat → Value) (H₀ Hs : Hp) (ρ : Rho) (σ : St) (H : Hp) : Prop where
  s0 : Same H₀ Hs
  s1 : Same Hs H
  vr : ∀ (i : Nat) t, ρ[i]? = some (some t) → VS cv H₀ σ[i]? H t
theorem G.same {cv : Nat → Value} {H₀ Hs H H' : Hp} {ρ : Rho} {σ : St} (g : G cv H₀ Hs ρ σ H) (s : Same H H') : G cv H₀ Hs ρ σ H' := ⟨g.s0, g.s1.trans s, fun i t e => (g.vr i t e).same s⟩
abbrev XOF := Nat → St → Hp → Prop
/-- the error classes' values, and what is wanted of an error that leaves -/
structure XOT where
  cv : Nat → Value
  f : XOF
def KK (XO : XOT) (H₀ Hs : Hp) (σ : St) (H : Hp) (Q : VK) (r : RE) : Prop :=
  (∀ l d v H', r = .ok l d → Same H H' → Rep (PL H₀ Hs l) H' d v → Q v H') ∧ ∀ c H', r = .exc c → Same H H' → XO.f c σ H'
theorem KK.same {XO : XOT} {H₀ Hs : Hp} {σ : St} {H H' : Hp} {Q : VK} {r : RE} (k : KK XO H₀ Hs σ H Q r) (s : Same H H') : KK XO H₀ Hs σ H' Q r :=
  ⟨fun l d v H2 e t => k.1 l d v H2 e (s.trans t), fun c H2 e t => k.2 c H2 e (s.trans t)⟩
/-- the reading of an expression that is worth f -/
def tF (XO : XOT) (f : FE) : TE := fun σ H Q => ∃ H₀ Hs ρ r, G XO.cv H₀ Hs ρ σ H ∧ f ρ = some r ∧ KK XO H₀ Hs σ H Q r
theorem tF_bind {XO : XOT} {H₀ Hs : Hp} {ρ : Rho} {σ : St} {H : Hp} {Q Q' : VK} {fa : FE} {k : Nat → PyData → Option RE} {r : RE} (g : G XO.cv H₀ Hs ρ σ H) (e : bindE (fa ρ) k = some r) (kk : KK XO H₀ Hs σ H Q r)
    (cont : ∀ l d v H1, Same H H1 → G XO.cv H₀ Hs ρ σ H1 → Rep (PL H₀ Hs l) H1 d v → k l d = some r → KK XO H₀ Hs σ H1 Q r → Q' v H1) : tF XO fa σ H Q' := by
  cases h : fa ρ with
  | none => rw [h] at e; cases e
  | some x =>
    rw [h] at e
    cases x with
    | exc c =>
      cases (Option.some.inj e)
      exact ⟨H₀, Hs, ρ, .exc c, g, h, ⟨fun l d v H' e => (nomatch e), kk.2⟩⟩
    | ok l d =>
      refine ⟨H₀, Hs, ρ, .ok l d, g, h, ⟨fun l' d' v H' e' s rp => ?_, fun c H' e => (nomatch e)⟩⟩
      cases e'
      exact cont l d v H' s (g.same s) rp e (kk.same s)
theorem KK.give {XO : XOT} {H₀ Hs : Hp} {σ : St} {H : Hp} {Q : VK} {r : RE} {l : Nat} {d : PyData} {v : V} {H' : Hp} (kk : KK XO H₀ Hs σ H Q r) (e : some (RE.ok l d) = some r) (s : Same H H') (rp : Rep (PL H₀ Hs l) H' d v) : Q v H' :=
  kk.1 l d v H' (Option.some.inj e).symm s rp

/-! ### constants, names -/
section
variable {X : Cx} {XO : XOT} {a b c : Expr} {fa fb fc : FE} {pos : Pos}
theorem PE.imp {e : Expr} {t t' : TE} (h : PE X e t) (f : ∀ σ H Q, t' σ H Q → t σ H Q) : PE X e t' := fun pins s σ H Q I q => h pins s σ H Q I (f σ H Q q)
theorem PT.imp {e : Expr} {t t' : TT} (h : PT X e t) (f : ∀ σ H Q, t' σ H Q → t σ H Q) : PT X e t' := fun pins s σ H Q I q => h pins s σ H Q I (f σ H Q q)
theorem PS.imp {e : Stmt} {t t' : TS} (h : PS X e t) (f : ∀ D σ H, t' D σ H → t D σ H) : PS X e t' := fun pins s σ H D I q => h pins s σ H D I (f D σ H q)
theorem x_int {i : Int} {j pos} : PE X (.Constant (.int i) j pos) (tF XO (eC (.int i))) := PE.imp pe_int fun σ H Q ⟨H₀, Hs, ρ, r, g, e, kk⟩ => kk.give e (Same.refl _) rfl
theorem x_str {i : Str} {j pos} : PE X (.Constant (.str i) j pos) (tF XO (eC (.str i))) := PE.imp pe_str fun σ H Q ⟨H₀, Hs, ρ, r, g, e, kk⟩ => kk.give e (Same.refl _) rfl
theorem x_bl {i : Bool} {j pos} : PE X (.Constant (.bool i) j pos) (tF XO (eC (.bool i))) := PE.imp pe_bl fun σ H Q ⟨H₀, Hs, ρ, r, g, e, kk⟩ => kk.give e (Same.refl _) rfl
theorem x_non {j pos} : PE X (.Constant .none j pos) (tF XO (eC .none)) := PE.imp pe_non fun σ H Q ⟨H₀, Hs, ρ, r, g, e, kk⟩ => kk.give e (Same.refl _) rfl
theorem x_var (i : Nat) {x : Str} {pos : Pos} (hN : X.N[i]? = some x := by rfl) (hv : Vis X.env.scope x := by first | exact Or.inl rfl | exact Or.inr (Or.inl rfl) | exact Or.inr (Or.inr rfl)) (hd : (x == ("__debug__" : Str)) = false := by decide)
    (hcd : (x == ("__classdict__" : Str)) = false := by decide) : PE X (.Name x pos) (tF XO (eVar i)) := PE.imp (pe_var hN hv hd hcd) fun σ H Q ⟨H₀, Hs, ρ, r, g, e, kk⟩ => by
  unfold eVar at e
  have vr := g.vr i
  split at e
  · rename_i d hρ
    obtain ⟨v, h1, h2⟩ := vr _ hρ
    exact ⟨v, h1, kk.give e (Same.refl _) h2⟩
  · rename_i d hρ
    obtain ⟨v, h1, h2⟩ := vr _ hρ
    exact ⟨v, h1, kk.give e (Same.refl _) h2⟩
  · rename_i d hρ
    obtain ⟨v, h1, h2⟩ := vr _ hρ
    exact ⟨v, h1, kk.give e (Same.refl _) h2⟩
  · rename_i d hρ
    obtain ⟨v, h1, h2⟩ := vr _ hρ
    exact ⟨v, h1, kk.give e (Same.refl _) h2⟩
  · cases e

/-! ### two-place operations -/
/-- the operation r on values does what op does on data -/
def OpD (r : R2) (op : PyData → PyData → Option PyData) (fr : Bool) : Prop :=
  ∀ (H₀ Hs H : Hp) (l m : Nat) (x y d : PyData) (v u : V) (Q : VK), Same H₀ Hs → Same Hs H → op x y = some d → Rep (PL H₀ Hs l) H x v → Rep (PL H₀ Hs m) H y u →
    (∀ z H', Same H H' → Rep (PL H₀ Hs (if fr then 2 else min l m)) H' d z → Q z H') → r v u H Q
theorem e2_read {r : R2} {op : PyData → PyData → Option PyData} {fr : Bool} (ho : OpD r op fr) {σ : St} {H : Hp} {Q : VK} (h : tF XO (e2 op fr fa fb) σ H Q) : tOp r (tF XO fa) (tF XO fb) σ H Q := by
  obtain ⟨H₀, Hs, ρ, rr, g, e, kk⟩ := h
  refine tF_bind g e kk fun l x v H1 s1 g1 r1 e1 k1 => ?_
  refine tF_bind g1 e1 k1 fun m y u H2 s2 g2 r2 e2' k2 => ?_
  cases hd : op x y with
  | none => rw [hd] at e2'; cases e2'
  | some d =>
    rw [hd] at e2'
    exact ho H₀ Hs H2 l m x y d v u Q g2.s0 g2.s1 hd (r1.same s2) r2 fun z H' s rp => k2.give e2' s rp
theorem x_op {op : Operator} {r : R2} {f : PyData → PyData → Option PyData} {fr : Bool} (ho : OpR X (binaryOp op) r) (hd : OpD r f fr) (ha : PE X a (tF XO fa)) (hb : PE X b (tF XO fb)) : PE X (.BinOp a op b pos) (tF XO (e2 f fr fa fb)) :=
  PE.imp (pe_op ho ha hb) fun _ _ _ h => e2_read hd h
theorem x_cmp {op : CmpOp} {r : R2} {f : PyData → PyData → Option PyData} {fr : Bool} (ho : OpR X (compareOp op) r) (hd : OpD r f fr) (ha : PE X a (tF XO fa)) (hb : PE X b (tF XO fb)) (hm : behindInMarks op b = false) : PE X (.Compare a [op] [b] pos) (tF XO (e2 f fr fa fb)) :=
  PE.imp (pe_cmpR ho ha hb hm) fun _ _ _ h => e2_read hd h
theorem x_ix {r : R2} {f : PyData → PyData → Option PyData} {fr : Bool} (ho : IxR X r) (hd : OpD r f fr) (ha : PE X a (tF XO fa)) (hb : PE X b (tF XO fb)) (hs : PlainIx b) : PE X (.Subscript a b pos) (tF XO (e2 f fr fa fb)) :=
  PE.imp (pe_ix ho ha hb hs) fun _ _ _ h => e2_read hd h
end
end KT
set_option Elab.async false
set_option linter.all false
set_option maxRecDepth 100000
namespace KT
open PySem PySem.Spec PyProof.Rows L2

theorem same_new {H : Hp} {p : Addr} (h : H p = none) (o : HO) : Same H (upd H p o) := fun b u q => by rw [upd_ne (ne_of_none q h)]; exact q
theorem big_le : big ≤ sizeLine := by decide
theorem le_big {n : Nat} (h : n ≤ big) : n ≤ sizeLine := Nat.le_trans h big_le

section
variable {X : Cx} {XO : XOT} {a b c : Expr} {fa fb fc : FE} {pos : Pos}

/-! ### + -/
def rCatE : R2 := fun x y H Q => ∃ a b ys, x = .ref a ∧ y = .ref b ∧ H a = some (.tup []) ∧ H b = some (.tup ys) ∧ Q (.ref b) H
theorem op_catE : OpR X (binaryOp .Add) rCatE := by
  intro pins s σ H x y v u Q I rx ry h
  obtain ⟨a, b, ys, rfl, rfl, ha, hb, q⟩ := h
  cases rx
  cases ry
  obtain ⟨its, r1, p1, _⟩ := I.tuple (SqT.of ha)
  obtain ⟨its2, r2, p2, _⟩ := I.tuple (SqT.of hb)
  obtain ⟨⟨cls, dd, data, sl⟩, ho, hc, n, hd⟩ := id p1
  obtain ⟨⟨cls2, dd2, data2, sl2⟩, ho2, hc2, n2, hd2⟩ := id p2
  simp only at hc hd hc2 hd2
  subst hc hd hc2 hd2
  have hv : its = [] := r1.nil_iff.mpr rfl
  exact concat_meets ⟨_, ho, rfl⟩ ⟨_, ho2, rfl⟩ noFill_tuple_add seq_tuple_add PySem.F.slot_tuple_add PySem.F.entry_tuple_add (PySem.F.args_tuple_add_2 _ _)
    (tuple_addW0 a b its.toArray its2.toArray n n2 dd dd2 sl sl2 (by simp [hv])) ⟨ho, ho2, ⟨.ref b, H, I, rfl, q⟩⟩
theorem lstR {pins : List (Addr × Obj)} {σ : L2.St} {H : Hp} {s : Shared} {l : Addr} {xs : List V} (I : Inv X pins σ H s) (hH : Rd H l (.lst xs)) :
    xs.length ≤ sizeLine ∧ ∃ (its : List Value) (n : Nat), Vals xs its ∧ xs.length = its.length ∧ s.heap.get? l = some { cls := .type "list", data := .seq its.toArray n } := by
  obtain ⟨z, its, n, r, e⟩ := hH.ok I.hok
  exact ⟨z, its, n, r, r.length, e⟩
def rCatR : R2 := fun x y H Q => ∃ l b xs zs, x = .ref l ∧ y = .ref b ∧ Rd H l (.lst xs) ∧ Rd H b (.lst zs) ∧ xs.length + zs.length ≤ sizeLine ∧ ∀ p, H p = none → Q (.ref p) (upd H p (.lst (xs ++ zs)))
theorem op_catR : OpR X (binaryOp .Add) rCatR := by
  intro pins s σ H x y v u Q I rx ry h
  obtain ⟨l, b, xs, zs, rfl, rfl, hH, hB, hz, q⟩ := h
  cases rx
  cases ry
  obtain ⟨z, its, n, r, hl, e⟩ := lstR I hH
  obtain ⟨z2, its2, n2, r2, hl2, e2⟩ := lstR I hB
  refine PySem.P.add_list e e2 ?_ (by rw [List.size_toArray, List.size_toArray]; omega)
  have ea : its.toArray ++ its2.toArray = (its ++ its2).toArray := by simp
  rw [ea]
  exact ⟨.ref _, _, I.lnew (t' := s.toks) (r.append r2) (by rw [List.length_append]; omega), rfl, q _ I.fresh⟩
def rAddS : R2 := fun x y H Q => ∃ i j, x = .str i ∧ y = .str j ∧ i.length + j.length ≤ sizeLine ∧ Q (.str (i ++ j)) H
def rAddD (K : PySem.W.Frag) : R2 := fun x y H Q => rI0 (fun i j => .int (i + j)) x y H Q ∨ rAddS x y H Q ∨ rCatT K x y H Q ∨ rCatE x y H Q ∨ rCatR x y H Q
theorem op_addD : OpR X (binaryOp .Add) (rAddD X.K) := op_add.or (OpR.or op_add_str (op_catT.or (op_catE.or op_catR)))
theorem od_add {K : PySem.W.Frag} : OpD (rAddD K) dAdd true := by
  intro H₀ Hs H l m x y d v u Q s0 s1 e rx ry q
  unfold dAdd at e
  split at e
  · rename_i i j
    cases (show v = .int i from rx); cases (show u = .int j from ry); cases e
    exact .inl ⟨i, j, rfl, rfl, q _ H (Same.refl H) rfl⟩
  · rename_i x y
    split at e
    · rename_i hz
      cases (show v = .str x from rx); cases (show u = .str y from ry); cases e
      exact .inr (.inl ⟨x, y, rfl, rfl, le_big hz, q _ H (Same.refl H) rfl⟩)
    · cases e
  · rename_i xs ys
    split at e
    · rename_i hz
      simp only [Bool.and_eq_true, decide_eq_true_eq] at hz
      obtain ⟨⟨f1, f2⟩, hz⟩ := hz
      cases e
      obtain ⟨pa, vs, rfl, ha, ra⟩ := rx
      obtain ⟨pb, us, rfl, hb, rb⟩ := ry
      have l1 := ra.length
      have l2 := rb.length
      by_cases hv : vs = []
      · subst hv
        have : xs = [] := by cases xs with | nil => rfl | cons _ _ => simp at l1
        subst this
        exact .inr (.inr (.inr (.inl ⟨pa, pb, us, rfl, rfl, ha, hb, q _ H (Same.refl H) ⟨pb, us, rfl, hb, rb.nl f2⟩⟩)))
      · refine .inr (.inr (.inl ⟨pa, pb, vs, us, rfl, rfl, SqT.of ha, SqT.of hb, hv, by rw [l1, l2]; exact le_big hz, fun hu => ?_, fun hu p hp => ?_⟩))
        · subst hu
          have : ys = [] := by cases ys with | nil => rfl | cons _ _ => simp at l2
          subst this
          rw [List.append_nil] at q
          exact q _ H (Same.refl H) ⟨pa, vs, rfl, ha, ra.nl f1⟩
        · exact q _ _ (same_new hp _) ⟨p, _, rfl, upd_same, ((ra.nl f1).append (rb.nl f2)).same (same_new hp _)⟩
    · cases e
  · rename_i xs ys
    split at e
    · rename_i hz
      simp only [Bool.and_eq_true, decide_eq_true_eq] at hz
      obtain ⟨⟨f1, f2⟩, hz⟩ := hz
      cases e
      obtain ⟨pa, vs, rfl, ha, ra⟩ := rx
      obtain ⟨pb, us, rfl, hb, rb⟩ := ry
      have l1 := ra.length
      have l2 := rb.length
      refine .inr (.inr (.inr (.inr ⟨pa, pb, vs, us, rfl, rfl, ha.rd, hb.rd, by rw [l1, l2]; exact le_big hz, fun p hp => ?_⟩)))
      exact q _ _ (same_new hp _) ⟨p, _, rfl, .inl ⟨⟨rfl, s1.free hp⟩, upd_same⟩, ((ra.nl f1).append (rb.nl f2)).same (same_new hp _)⟩
    · cases e
  · cases e
theorem x_add (ha : PE X a (tF XO fa)) (hb : PE X b (tF XO fb)) : PE X (.BinOp a .Add b pos) (tF XO (eAdd fa fb)) := x_op op_addD od_add ha hb

/-! ### the other operations on ints -/
theorem od_int {C : Int → Int → Prop} {g : Int → Int → Int} {f : PyData → PyData → Option PyData} (hf : ∀ x y d, f x y = some d → ∃ i j, x = .int i ∧ y = .int j ∧ C i j ∧ d = .int (g i j)) : OpD (rI C fun i j => .int (g i j)) f true := by
  intro H₀ Hs H l m x y d v u Q s0 s1 e rx ry q
  obtain ⟨i, j, rfl, rfl, hc, rfl⟩ := hf x y d e
  cases (show v = .int i from rx); cases (show u = .int j from ry)
  exact ⟨i, j, rfl, rfl, hc, q _ H (Same.refl H) rfl⟩
theorem op_sub' : OpR X (binaryOp .Sub) (rI (fun _ _ => True) fun i j => .int (i - j)) := opI fun _ _ _ _ _ _ _ _ q => sub_int q
theorem x_sub (ha : PE X a (tF XO fa)) (hb : PE X b (tF XO fb)) : PE X (.BinOp a .Sub b pos) (tF XO (eSub fa fb)) :=
  x_op op_sub' (od_int fun x y d e => by unfold dSub at e; split at e <;> first | (cases e; exact ⟨_, _, rfl, rfl, trivial, rfl⟩) | cases e) ha hb
theorem bits_lim {i : Int} (h : i.natAbs < lim) : Builtin.Int.intBits i ≤ 2 ^ 20 := by
  unfold Builtin.Int.intBits
  split
  · exact Nat.zero_le _
  · rename_i h0
    have h1 : i.natAbs ≠ 0 := by
      intro z
      exact h0 (by simp [Int.natAbs_eq_zero.mp z])
    have h2 : i.natAbs.log2 < 256 := (Nat.log2_lt h1).mpr h
    have h3 : (256 : Nat) ≤ 2 ^ 20 := by decide
    omega
theorem CMulD.ok {i j : Int} (h : CMulD i j) : IntMulOk i j := by
  rcases h with h | h | ⟨h1, h2⟩
  · exact IntMulOk.of_left (intBits_le_64 (by omega) (by omega))
  · exact IntMulOk.of_right (intBits_le_64 (by omega) (by omega))
  · exact IntMulOk.of_bits (bits_lim h1) (bits_lim h2)
theorem op_mulI : OpR X (binaryOp .Mult) (rI CMulD fun i j => .int (i * j)) := opI fun _ _ _ _ _ _ _ hc q => mul_int q hc.ok
/-- a list times an int, of any list that is read -/
def rRepR : R2 := fun x y H Q => ∃ l k xs, x = .ref l ∧ y = .int k ∧ Rd H l (.lst xs) ∧ -(2 ^ 63) ≤ k ∧ k < 2 ^ 63 ∧ xs.length * k.toNat ≤ sizeLine ∧
  ∀ p, H p = none → Q (.ref p) (upd H p (.lst (List.replicate k.toNat xs).flatten))
theorem op_repR : OpR X (binaryOp .Mult) rRepR := by
  intro pins s σ H x y v u Q I rx ry h
  obtain ⟨l, k, xs, rfl, rfl, hH, h1, h2, hz, q⟩ := h
  cases rx
  obtain ⟨t, rfl⟩ := ry
  obtain ⟨z, its, n, r, hl, e⟩ := lstR I hH
  have hlen : its.toArray.size * k.toNat ≤ sizeLine := by rw [List.size_toArray, ← hl]; exact hz
  have hcap : ¬ its.toArray.size * k.toNat > (2 ^ 63 - 1) / 8 := by
    have : (sizeLine : Nat) ≤ (2 ^ 63 - 1) / 8 := by decide
    omega
  have hfit : ¬ (!Builtin.List.listFitsIndex k) = true := by
    rw [fitsIndex_both h1 h2]
    exact Bool.false_ne_true
  have hlong : ¬ Builtin.List.listTooLong (its.toArray.size * k.toNat) = true := by
    rw [notLongL hlen]
    exact Bool.false_ne_true
  have hnew : List.foldl (fun x1 x2 => x1 ++ x2) #[] (List.replicate (if its.toArray.isEmpty = true then 0 else k.toNat) its.toArray) = (List.replicate k.toNat its).flatten.toArray := by
    have f0 : ∀ m : Nat, List.foldl (fun x1 x2 => x1 ++ x2) #[] (List.replicate m its.toArray) = (List.replicate m its).flatten.toArray := fun m => by
      have := foldl_rep its m []
      rw [List.nil_append] at this
      exact this
    rw [f0]
    cases its with
    | nil => simp
    | cons a r' => rw [if_neg (by simp)]
  refine wpAny_binaryOp_repeat_ref (T := "list") (U := "int") (by decide) ⟨_, e, rfl⟩ (fun s' => typeIs_int s' k t) noFill_list_mul F.fills_int_mul F.slot_int_rmul repeat_list F.slot_int_index.lookup
    (call_meets F.slot_int_rmul (typeIs_int s k t) F.entry_int_rmul (F.args_int_rmul_2 _ _) (int___rmul___int_list k t l its.toArray n)
      ⟨e, rfl, ⟨_, e, rfl⟩, call_meets F.slot_list_mul ⟨_, e, rfl⟩ F.entry_list_mul (F.args_list_mul_2 _ _) (AutoListH.list___mul___list_int_3 l its.toArray n k t hfit hcap hlong) ⟨e, ?_⟩⟩)
  rw [hnew]
  exact ⟨.ref _, _, I.lnew (t' := s.toks) (r.rep k.toNat) (by rw [len_rep, Nat.mul_comm]; exact hz), rfl, q _ I.fresh⟩
theorem Reps.rep {P : PP} {H : Hp} {ds : List PyData} {vs : List V} (h : Reps P H ds vs) : ∀ k : Nat, Reps P H (List.replicate k ds).flatten (List.replicate k vs).flatten
  | 0 => rfl
  | k + 1 => by
    rw [List.replicate_succ, List.replicate_succ, List.flatten_cons, List.flatten_cons]
    exact h.append (Reps.rep h k)
def rMulD : R2 := fun x y H Q => rI CMulD (fun i j => .int (i * j)) x y H Q ∨ rRepR x y H Q
theorem od_mul : OpD rMulD dMul true := by
  intro H₀ Hs H l m x y d v u Q s0 s1 e rx ry q
  unfold dMul at e
  split at e
  · rename_i i j
    split at e
    · rename_i hc
      cases (show v = .int i from rx); cases (show u = .int j from ry); cases e
      exact .inl ⟨i, j, rfl, rfl, hc, q _ H (Same.refl H) rfl⟩
    · cases e
  · rename_i xs k
    split at e
    · rename_i hz
      simp only [Bool.and_eq_true, decide_eq_true_eq] at hz
      obtain ⟨⟨f1, hz⟩, hk⟩ := hz
      cases e
      obtain ⟨pa, vs, rfl, ha, ra⟩ := rx
      cases (show u = .int k from ry)
      have l1 := ra.length
      have hb : big < 2 ^ 63 := by decide
      refine .inr ⟨pa, k, vs, rfl, rfl, ha.rd, by omega, by omega, by rw [l1]; exact le_big hz, fun p hp => ?_⟩
      exact q _ _ (same_new hp _) ⟨p, _, rfl, .inl ⟨⟨rfl, s1.free hp⟩, upd_same⟩, ((ra.nl f1).rep _).same (same_new hp _)⟩
    · cases e
  · cases e
theorem x_mul (ha : PE X a (tF XO fa)) (hb : PE X b (tF XO fb)) : PE X (.BinOp a .Mult b pos) (tF XO (eMul fa fb)) := x_op (op_mulI.or op_repR) od_mul ha hb
theorem op_divI : OpR X (binaryOp .FloorDiv) (rI (fun _ j => 0 < j ∧ j.natAbs < lim) fun i j => .int (i / j)) := opI fun i j _ _ _ _ _ hc q => by
  have h0 : j ≠ 0 := by omega
  refine floordiv_int h0 ?_ (.inl (PyProof.noPylong_of_log2 ?_))
  · rw [Int.fdiv_eq_ediv_of_nonneg _ (by omega)]
    exact q
  · have h1 : j.natAbs ≠ 0 := by omega
    have h2 : j.natAbs.log2 < 256 := (Nat.log2_lt h1).mpr hc.2
    omega
theorem x_div (ha : PE X a (tF XO fa)) (hb : PE X b (tF XO fb)) : PE X (.BinOp a .FloorDiv b pos) (tF XO (eDiv fa fb)) :=
  x_op op_divI (od_int fun x y d e => by
    unfold dDiv at e
    split at e
    · split at e
      · rename_i hc; cases e; exact ⟨_, _, rfl, rfl, hc, rfl⟩
      · cases e
    · cases e) ha hb
theorem x_mod (ha : PE X a (tF XO fa)) (hb : PE X b (tF XO fb)) : PE X (.BinOp a .Mod b pos) (tF XO (eMod fa fb)) :=
  x_op op_mod (od_int fun x y d e => by
    unfold dMod at e
    split at e
    · split at e
      · rename_i hc; cases e; exact ⟨_, _, rfl, rfl, hc, rfl⟩
      · cases e
    · cases e) ha hb
theorem x_pow (ha : PE X a (tF XO fa)) (hb : PE X b (tF XO fb)) : PE X (.BinOp a .Pow b pos) (tF XO (ePow fa fb)) :=
  x_op op_pow (od_int fun x y d e => by
    unfold dPow at e
    split at e
    · split at e
      · rename_i hc; cases e; exact ⟨_, _, rfl, rfl, ⟨hc.1, by omega, hc.2.2⟩, rfl⟩
      · cases e
    · cases e) ha hb
/-! ### one-place operations -/
def OpD1 (r : V → Hp → VK → Prop) (op : PyData → Option PyData) (fr : Bool) : Prop :=
  ∀ (H₀ Hs H : Hp) (l : Nat) (x d : PyData) (v : V) (Q : VK), Same H₀ Hs → Same Hs H → op x = some d → Rep (PL H₀ Hs l) H x v →
    (∀ z H', Same H H' → Rep (PL H₀ Hs (if fr then 2 else l)) H' d z → Q z H') → r v H Q
theorem e1_read {r : V → Hp → VK → Prop} {op : PyData → Option PyData} {fr : Bool} (ho : OpD1 r op fr) {σ : L2.St} {H : Hp} {Q : VK} (h : tF XO (e1 op fr fa) σ H Q) : tF XO fa σ H fun x H1 => r x H1 Q := by
  obtain ⟨H₀, Hs, ρ, rr, g, e, kk⟩ := h
  refine tF_bind g e kk fun l x v H1 s1 g1 r1 e1 k1 => ?_
  cases hd : op x with
  | none => rw [hd] at e1; cases e1
  | some d =>
    rw [hd] at e1
    exact ho H₀ Hs H1 l x d v Q g1.s0 g1.s1 hd r1 fun z H' s rp => k1.give e1 s rp
theorem x_neg (ha : PE X a (tF XO fa)) : PE X (.UnaryOp .USub a pos) (tF XO (eNeg fa)) :=
  PE.imp (pe_un un_neg ha) fun _ _ _ h => e1_read (op := dNeg) (fun H₀ Hs H l x d v Q s0 s1 e rx q => by
    unfold dNeg at e
    split at e
    · rename_i i
      cases (show v = .int i from rx); cases e
      exact ⟨i, rfl, q _ H (Same.refl H) rfl⟩
    · cases e) h
end
end KT
set_option Elab.async false
set_option linter.all false
set_option maxRecDepth 100000
namespace KT
open PySem PySem.Spec PyProof.Rows L2

/-- what a body's context is asked for -/
structure BC (X : Cx) : Prop where
  hu : X.A.units + 64 < cLine
  mlen : X.mg "len" = none
  mint : X.mg "int" = none
  mbool : X.mg "bool" = none
  mstr : X.mg "str" = none
  mtuple : X.mg "tuple" = none
  mlist : X.mg "list" = none
  misi : X.mg "isinstance" = none
  mrange : X.mg "range" = none
  menum : X.mg "enumerate" = none
  mzip : X.mg "zip" = none
  mrev : X.mg "reversed" = none

section
variable {X : Cx} {XO : XOT} {a b c : Expr} {fa fb fc : FE} {pos : Pos}

/-! ### == and != of data -/
def rEqD (neg : Bool) : R2 := fun x y H Q => ∃ (P1 P2 : PP) (d1 d2 : PyData), Rep P1 H d1 x ∧ Rep P2 H d2 y ∧ d1.canLay0 = true ∧ d2.canLay0 = true ∧ min d1.depth d2.depth ≤ 60 ∧ Q (.bl (if neg then !PyData.eqv d1 d2 else PyData.eqv d1 d2)) H
theorem op_eqD (hu : X.A.units + 64 < cLine) : OpR X (compareOp .Eq) (rEqD false) := by
  intro pins s σ H x y v u Q I rx ry h
  obtain ⟨P1, P2, d1, d2, r1, r2, c1, c2, hd, q⟩ := h
  obtain ⟨as, ra⟩ := reads_of I d1 x v c1 r1 rx
  obtain ⟨bs, rb⟩ := reads_of I d2 y u c2 r2 ry
  exact SeqAt.compareEq_reads ra rb c1 c2 (by omega) ⟨.bl _, H, I, rfl, q⟩
theorem op_neD (hu : X.A.units + 64 < cLine) : OpR X (compareOp .NotEq) (rEqD true) := by
  intro pins s σ H x y v u Q I rx ry h
  obtain ⟨P1, P2, d1, d2, r1, r2, c1, c2, hd, q⟩ := h
  obtain ⟨as, ra⟩ := reads_of I d1 x v c1 r1 rx
  obtain ⟨bs, rb⟩ := reads_of I d2 y u c2 r2 ry
  exact SeqAt.compareNe_reads ra rb c1 c2 (by omega) ⟨.bl _, H, I, rfl, q⟩
theorem dEqB_cases {x y : PyData} {b : Bool} (h : dEqB x y = some b) : (∃ i j, x = .int i ∧ y = .int j ∧ b = (i == j)) ∨ (∃ i j, x = .str i ∧ y = .str j ∧ b = (i == j)) ∨ (∃ i j, x = .bool i ∧ y = .bool j ∧ b = (i == j)) ∨ (eqOk x y = true ∧ b = PyData.eqv x y) := by
  unfold dEqB at h
  split at h
  · cases h; exact .inl ⟨_, _, rfl, rfl, rfl⟩
  · cases h; exact .inr (.inl ⟨_, _, rfl, rfl, rfl⟩)
  · cases h; exact .inr (.inr (.inl ⟨_, _, rfl, rfl, rfl⟩))
  · split at h
    · rename_i hk; cases h; exact .inr (.inr (.inr ⟨hk, rfl⟩))
    · cases h
theorem eqOk_iff {x y : PyData} (h : eqOk x y = true) : x.canLay0 = true ∧ y.canLay0 = true ∧ min x.depth y.depth ≤ 60 := by
  simp only [eqOk, Bool.and_eq_true, decide_eq_true_eq] at h
  exact ⟨h.1.1, h.1.2, h.2⟩
theorem od_eq : OpD (fun x y H Q => rEq x y H Q ∨ rEqD false x y H Q) dEq true := by
  intro H₀ Hs H l m x y d v u Q s0 s1 e rx ry q
  unfold dEq at e
  cases hb : dEqB x y with
  | none => rw [hb] at e; cases e
  | some k =>
    rw [hb] at e
    cases e
    rcases dEqB_cases hb with ⟨i, j, rfl, rfl, rfl⟩ | ⟨i, j, rfl, rfl, rfl⟩ | ⟨i, j, rfl, rfl, rfl⟩ | ⟨hk, rfl⟩
    · cases (show v = .int i from rx); cases (show u = .int j from ry)
      exact .inl ⟨rfl, q _ H (Same.refl H) (by rw [dec_int]; rfl)⟩
    · cases (show v = .str i from rx); cases (show u = .str j from ry)
      exact .inl ⟨rfl, q _ H (Same.refl H) (by rw [dec_str]; rfl)⟩
    · cases (show v = .bl i from rx); cases (show u = .bl j from ry)
      exact .inl ⟨rfl, q _ H (Same.refl H) (by rw [dec_bl]; rfl)⟩
    · obtain ⟨c1, c2, hd⟩ := eqOk_iff hk
      exact .inr ⟨_, _, x, y, rx, ry, c1, c2, hd, q _ H (Same.refl H) rfl⟩
theorem od_ne : OpD (fun x y H Q => rNe x y H Q ∨ rEqD true x y H Q) dNe true := by
  intro H₀ Hs H l m x y d v u Q s0 s1 e rx ry q
  unfold dNe at e
  cases hb : dEqB x y with
  | none => rw [hb] at e; cases e
  | some k =>
    rw [hb] at e
    cases e
    rcases dEqB_cases hb with ⟨i, j, rfl, rfl, rfl⟩ | ⟨i, j, rfl, rfl, rfl⟩ | ⟨i, j, rfl, rfl, rfl⟩ | ⟨hk, rfl⟩
    · cases (show v = .int i from rx); cases (show u = .int j from ry)
      exact .inl ⟨rfl, q _ H (Same.refl H) (by rw [dec_int]; rfl)⟩
    · cases (show v = .str i from rx); cases (show u = .str j from ry)
      exact .inl ⟨rfl, q _ H (Same.refl H) (by rw [dec_str]; rfl)⟩
    · cases (show v = .bl i from rx); cases (show u = .bl j from ry)
      exact .inl ⟨rfl, q _ H (Same.refl H) (by rw [dec_bl]; rfl)⟩
    · obtain ⟨c1, c2, hd⟩ := eqOk_iff hk
      exact .inr ⟨_, _, x, y, rx, ry, c1, c2, hd, q _ H (Same.refl H) rfl⟩
/-! ### in, not in -/
def rInD (neg : Bool) : R2 := fun x y H Q => ∃ (P1 P2 : PP) (d1 : PyData) (ds : List PyData), Rep P1 H d1 x ∧ (Rep P2 H (.list ds) y ∨ Rep P2 H (.tuple ds) y) ∧ d1.canLay0 = true ∧ PyData.canLayAll0 ds = true ∧ min (PyData.depthAll ds) d1.depth ≤ 60 ∧
  Q (.bl (if neg then !(ds.any fun y => PyData.eqv y d1) else ds.any fun y => PyData.eqv y d1)) H
theorem op_inD (hu : X.A.units + 64 < cLine) : OpR X (compareOp .In) (rInD false) := by
  intro pins s σ H x y v u Q I rx ry h
  obtain ⟨P1, P2, d1, ds, r1, r2, c1, c2, hd, q⟩ := h
  obtain ⟨as, ra⟩ := reads_of I d1 x v c1 r1 rx
  rcases r2 with r2 | r2
  · obtain ⟨bs, rb⟩ := reads_of I _ y u (by simpa [PyData.canLay0] using c2) r2 ry
    exact SeqAt.in_list_reads rb ra c2 c1 (by omega) ⟨.bl _, H, I, rfl, q⟩
  · obtain ⟨bs, rb⟩ := reads_of I _ y u (by simpa [PyData.canLay0] using c2) r2 ry
    exact SeqAt.in_tuple_reads rb ra c2 c1 (by omega) ⟨.bl _, H, I, rfl, q⟩
theorem op_notInD (hu : X.A.units + 64 < cLine) : OpR X (compareOp .NotIn) (rInD true) := by
  intro pins s σ H x y v u Q I rx ry h
  obtain ⟨P1, P2, d1, ds, r1, r2, c1, c2, hd, q⟩ := h
  obtain ⟨as, ra⟩ := reads_of I d1 x v c1 r1 rx
  rcases r2 with r2 | r2
  · obtain ⟨bs, rb⟩ := reads_of I _ y u (by simpa [PyData.canLay0] using c2) r2 ry
    exact SeqAt.notIn_list_reads rb ra c2 c1 (by omega) ⟨.bl _, H, I, rfl, q⟩
  · obtain ⟨bs, rb⟩ := reads_of I _ y u (by simpa [PyData.canLay0] using c2) r2 ry
    exact SeqAt.notIn_tuple_reads rb ra c2 c1 (by omega) ⟨.bl _, H, I, rfl, q⟩
theorem inOk_iff {x : PyData} {ys : List PyData} (h : inOk x ys = true) : x.canLay0 = true ∧ PyData.canLayAll0 ys = true ∧ min (PyData.depthAll ys) x.depth ≤ 60 := by
  simp only [inOk, Bool.and_eq_true, decide_eq_true_eq] at h
  exact ⟨h.1.1, h.1.2, h.2⟩
theorem od_in : OpD (rInD false) dIn true := by
  intro H₀ Hs H l m x y d v u Q s0 s1 e rx ry q
  unfold dIn at e
  cases hb : dInB x y with
  | none => rw [hb] at e; cases e
  | some k =>
    rw [hb] at e
    cases e
    unfold dInB at hb
    split at hb
    · split at hb
      · rename_i hk
        cases hb
        obtain ⟨c1, c2, hd⟩ := inOk_iff hk
        exact ⟨_, _, _, _, rx, .inr ry, c1, c2, hd, q _ H (Same.refl H) rfl⟩
      · cases hb
    · split at hb
      · rename_i hk
        cases hb
        obtain ⟨c1, c2, hd⟩ := inOk_iff hk
        exact ⟨_, _, _, _, rx, .inl ry, c1, c2, hd, q _ H (Same.refl H) rfl⟩
      · cases hb
    · cases hb
theorem od_notIn : OpD (rInD true) dNotIn true := by
  intro H₀ Hs H l m x y d v u Q s0 s1 e rx ry q
  unfold dNotIn at e
  cases hb : dInB x y with
  | none => rw [hb] at e; cases e
  | some k =>
    rw [hb] at e
    cases e
    unfold dInB at hb
    split at hb
    · split at hb
      · rename_i hk
        cases hb
        obtain ⟨c1, c2, hd⟩ := inOk_iff hk
        exact ⟨_, _, _, _, rx, .inr ry, c1, c2, hd, q _ H (Same.refl H) rfl⟩
      · cases hb
    · split at hb
      · rename_i hk
        cases hb
        obtain ⟨c1, c2, hd⟩ := inOk_iff hk
        exact ⟨_, _, _, _, rx, .inl ry, c1, c2, hd, q _ H (Same.refl H) rfl⟩
      · cases hb
    · cases hb
/-! ### < and its like, is None -/
theorem od_bool {g : Int → Int → Bool} {f : PyData → PyData → Option PyData} (hf : ∀ x y d, f x y = some d → ∃ i j, x = .int i ∧ y = .int j ∧ d = .bool (g i j)) : OpD (rI0 fun i j => .bl (g i j)) f true := by
  intro H₀ Hs H l m x y d v u Q s0 s1 e rx ry q
  obtain ⟨i, j, rfl, rfl, rfl⟩ := hf x y d e
  cases (show v = .int i from rx); cases (show u = .int j from ry)
  exact ⟨i, j, rfl, rfl, q _ H (Same.refl H) rfl⟩
theorem od_lt : OpD (rI0 fun i j => .bl (decide (i < j))) dLt true := od_bool fun x y d e => by unfold dLt at e; split at e <;> first | (cases e; exact ⟨_, _, rfl, rfl, rfl⟩) | cases e
theorem od_gt : OpD (rI0 fun i j => .bl (decide (j < i))) dGt true := od_bool fun x y d e => by unfold dGt at e; split at e <;> first | (cases e; exact ⟨_, _, rfl, rfl, rfl⟩) | cases e
theorem rep_none {P : PP} {H : Hp} : ∀ {x : PyData} {v : V}, Rep P H x v → decide (v = .non) = isNone x
  | .none, _, h => by cases (show _ = _ from h); rfl
  | .bool _, _, h => by cases (show _ = _ from h); rfl
  | .int _, _, h => by cases (show _ = _ from h); rfl
  | .str _, _, h => by cases (show _ = _ from h); rfl
  | .tuple _, _, ⟨_, _, e, _⟩ => by subst e; rfl
  | .list _, _, ⟨_, _, e, _⟩ => by subst e; rfl
  | .dict _, _, ⟨_, _, e⟩ => by subst e; rfl
theorem isNone_eq {y : PyData} (h : isNone y = true) : y = .none := by cases y <;> first | rfl | cases h
theorem od_notN : OpD (fun x y H Q => y = .non ∧ Q (.bl (!decide (x = .non))) H) dNotN true := by
  intro H₀ Hs H l m x y d v u Q s0 s1 e rx ry q
  unfold dNotN at e
  split at e
  · rename_i hn
    cases isNone_eq hn
    cases e
    exact ⟨ry, q _ H (Same.refl H) (by rw [rep_none rx]; rfl)⟩
  · cases e
theorem t_cmp {op : CmpOp} {r : R2} {f : PyData → PyData → Option PyData} {fr : Bool} (ho : OpR X (compareOp op) r) (hd : OpD r f fr) (ha : PE X a (tF XO fa)) (hb : PE X b (tF XO fb)) (hm : behindInMarks op b = false) : PT X (.Compare a [op] [b] pos) (tTest (tF XO (e2 f fr fa fb))) :=
  PT.imp (pt_cmpR ho ha hb hm) fun _ _ _ h => e2_read hd h
theorem x_Eq (C : BC X) (ha : PE X a (tF XO fa)) (hb : PE X b (tF XO fb)) : PE X (.Compare a [.Eq] [b] pos) (tF XO (eEq fa fb)) := x_cmp (op_eq.or (op_eqD C.hu)) od_eq ha hb (nomark _)
theorem u_Eq (C : BC X) (ha : PE X a (tF XO fa)) (hb : PE X b (tF XO fb)) : PT X (.Compare a [.Eq] [b] pos) (tTest (tF XO (eEq fa fb))) := t_cmp (op_eq.or (op_eqD C.hu)) od_eq ha hb (nomark _)
theorem u_Ne (C : BC X) (ha : PE X a (tF XO fa)) (hb : PE X b (tF XO fb)) : PT X (.Compare a [.NotEq] [b] pos) (tTest (tF XO (eNe fa fb))) := t_cmp (op_ne.or (op_neD C.hu)) od_ne ha hb (nomark _)
theorem u_In (C : BC X) (ha : PE X a (tF XO fa)) (hb : PE X b (tF XO fb)) (hm : behindInMarks .In b = false := by rfl) : PT X (.Compare a [.In] [b] pos) (tTest (tF XO (eIn fa fb))) := t_cmp (op_inD C.hu) od_in ha hb hm
theorem u_NotIn (C : BC X) (ha : PE X a (tF XO fa)) (hb : PE X b (tF XO fb)) (hm : behindInMarks .NotIn b = false := by rfl) : PT X (.Compare a [.NotIn] [b] pos) (tTest (tF XO (eNotIn fa fb))) := t_cmp (op_notInD C.hu) od_notIn ha hb hm
theorem u_Lt (C : BC X) (ha : PE X a (tF XO fa)) (hb : PE X b (tF XO fb)) : PT X (.Compare a [.Lt] [b] pos) (tTest (tF XO (eLt fa fb))) := t_cmp op_lt od_lt ha hb (nomark _)
theorem u_Gt (C : BC X) (ha : PE X a (tF XO fa)) (hb : PE X b (tF XO fb)) : PT X (.Compare a [.Gt] [b] pos) (tTest (tF XO (eGt fa fb))) := t_cmp op_gt od_gt ha hb (nomark _)
theorem u_NotN (C : BC X) (ha : PE X a (tF XO fa)) (hb : PE X b (tF XO fb)) : PT X (.Compare a [.IsNot] [b] pos) (tTest (tF XO (eNotN fa fb))) := t_cmp op_notN od_notN ha hb (nomark _)
/-! ### a chain of two -/
/-- an operation, with its reading on data -/
structure CmpD (X : Cx) (op : CmpOp) (f : PyData → PyData → Option PyData) : Prop where
  ex : ∃ r, OpR X (compareOp op) r ∧ OpD r f true
theorem x_one {op : BoolOp} (ha : PE X a (tF XO fa)) : PE X (.BoolOp op [a] pos) (tF XO fa) := pe_one ha
theorem x_and {rest : List Expr} (ha : PE X a (tF XO fa)) (hb : PE X (.BoolOp .And (b :: rest) pos) (tF XO fb)) : PE X (.BoolOp .And (a :: b :: rest) pos) (tF XO (eAnd fa fb)) :=
  PE.imp (pe_and ha hb) fun σ H Q ⟨H₀, Hs, ρ, r, g, e, kk⟩ => tF_bind g e kk fun l x v H1 s1 g1 r1 e1 k1 => by
    split at e1
    · exact ⟨true, r1, L2.iteT (⟨H₀, Hs, ρ, r, g1, e1, k1⟩)⟩
    · exact ⟨false, r1, L2.iteF (k1.give e1 (Same.refl _) rfl)⟩
    · cases e1
theorem x_or {rest : List Expr} (ha : PE X a (tF XO fa)) (hb : PE X (.BoolOp .Or (b :: rest) pos) (tF XO fb)) : PE X (.BoolOp .Or (a :: b :: rest) pos) (tF XO (eOr fa fb)) :=
  PE.imp (pe_or ha hb) fun σ H Q ⟨H₀, Hs, ρ, r, g, e, kk⟩ => tF_bind g e kk fun l x v H1 s1 g1 r1 e1 k1 => by
    split at e1
    · exact ⟨true, r1, L2.iteT (k1.give e1 (Same.refl _) rfl)⟩
    · exact ⟨false, r1, L2.iteF (⟨H₀, Hs, ρ, r, g1, e1, k1⟩)⟩
    · cases e1
theorem x_ifx {cc : Expr} (hc : PT X cc (tTest (tF XO fc))) (ha : PE X a (tF XO fa)) (hb : PE X b (tF XO fb)) : PE X (.IfExp cc a b pos) (tF XO (eIf fc fa fb)) :=
  PE.imp (pe_ifExp hc ha hb) fun σ H Q ⟨H₀, Hs, ρ, r, g, e, kk⟩ => tF_bind g e kk fun l x v H1 s1 g1 r1 e1 k1 => by
    split at e1
    · exact ⟨true, r1, L2.iteT (⟨H₀, Hs, ρ, r, g1, e1, k1⟩)⟩
    · exact ⟨false, r1, L2.iteF (⟨H₀, Hs, ρ, r, g1, e1, k1⟩)⟩
    · cases e1
/-! ### tests -/
theorem u_val (ha : PE X a (tF XO fa)) (he : ∀ whole, isTrue a X.env whole = (do let v ← whole; standAt a.pos; holding [v] (truthy v)) := by intro _; rfl) : PT X a (tTest (tF XO fa)) := pt_val ha he
theorem u_not (ha : PT X a (tTest (tF XO fa))) : PT X (.UnaryOp .Not a pos) (tTest (tF XO (eNot fa))) :=
  PT.imp (pt_not ha) fun σ H Q ⟨H₀, Hs, ρ, r, g, e, kk⟩ => tF_bind g e kk fun l x v H1 s1 g1 r1 e1 k1 => by
    split at e1
    · obtain ⟨z, hz, q⟩ := k1.give e1 (Same.refl _) (v := .bl _) rfl
      cases hz
      exact ⟨_, r1, q⟩
    · cases e1
theorem u_oneAnd (ha : PT X a (tTest (tF XO fa))) : PW X (.BoolOp .And [a] pos) (tTest (tF XO fa)) := pw_and1 ha
theorem u_oneOr (ha : PT X a (tTest (tF XO fa))) : PW X (.BoolOp .Or [a] pos) (tTest (tF XO fa)) := pw_or1 ha
theorem PW.imp {e : Expr} {t t' : TT} (h : PW X e t) (f : ∀ σ H Q, t' σ H Q → t σ H Q) : PW X e t' := fun whole pins s σ H Q I q => h whole pins s σ H Q I (f σ H Q q)
theorem u_and {rest : List Expr} (ha : PT X a (tTest (tF XO fa))) (hb : PW X (.BoolOp .And (b :: rest) pos) (tTest (tF XO fb))) : PW X (.BoolOp .And (a :: b :: rest) pos) (tTest (tF XO (eAnd fa fb))) :=
  PW.imp (pw_and ha hb) fun σ H Q ⟨H₀, Hs, ρ, r, g, e, kk⟩ => tF_bind g e kk fun l x v H1 s1 g1 r1 e1 k1 => by
    split at e1
    · exact ⟨true, r1, L2.iteT (⟨H₀, Hs, ρ, r, g1, e1, k1⟩)⟩
    · obtain ⟨z, hz, q⟩ := k1.give e1 (Same.refl _) (v := .bl _) rfl
      cases hz
      exact ⟨false, r1, L2.iteF (q)⟩
    · cases e1
theorem u_or {rest : List Expr} (ha : PT X a (tTest (tF XO fa))) (hb : PW X (.BoolOp .Or (b :: rest) pos) (tTest (tF XO fb))) : PW X (.BoolOp .Or (a :: b :: rest) pos) (tTest (tF XO (eOr fa fb))) :=
  PW.imp (pw_or ha hb) fun σ H Q ⟨H₀, Hs, ρ, r, g, e, kk⟩ => tF_bind g e kk fun l x v H1 s1 g1 r1 e1 k1 => by
    split at e1
    · obtain ⟨z, hz, q⟩ := k1.give e1 (Same.refl _) (v := .bl _) rfl
      cases hz
      exact ⟨true, r1, L2.iteT (q)⟩
    · exact ⟨false, r1, L2.iteF (⟨H₀, Hs, ρ, r, g1, e1, k1⟩)⟩
    · cases e1
end
end KT
set_option Elab.async false
set_option linter.all false
set_option maxRecDepth 100000
namespace KT
open PySem PySem.Spec PyProof.Rows L2

/-- an argument without a star -/
def notStar : Expr → Bool
  | .Starred _ _ => false
  | _ => true
theorem star_cons {e : Expr} {es : List Expr} {env : Env} (h : notStar e = true) : starEach (e :: es) env = (false, eval e env) :: starEach es env := by
  cases e <;> first | cases h; done | (rw [starEach]; intro _ _ z; cases z)
theorem star_any {pos : Pos} {env : Env} : ∀ {es : List Expr}, es.all notStar = true → (backTo pos (starEach es env)).any (·.1) = false
  | [], _ => by simp [starEach, backTo]
  | e :: es, h => by
    rw [List.all_cons, Bool.and_eq_true] at h
    rw [star_cons h.1]
    show (false || (backTo pos (starEach es env)).any (·.1)) = false
    rw [star_any h.2]
    rfl
section
variable {X : Cx} {XO : XOT} {a b c e : Expr} {es : List Expr} {fa fb fc f : FE} {fs : List FE} {pos : Pos}

/-! ### rows of arguments -/
def KI (XO : XOT) (H₀ Hs : Hp) (σ : L2.St) (H : Hp) (Q : List V → Hp → Prop) (r : RI) : Prop :=
  (∀ l ds vs H', r = .ok l ds → Same H H' → Reps (PL H₀ Hs l) H' ds vs → Q vs H') ∧ ∀ c H', r = .exc c → Same H H' → XO.f c σ H'
theorem KI.same {H₀ Hs : Hp} {σ : L2.St} {H H' : Hp} {Q : List V → Hp → Prop} {r : RI} (k : KI XO H₀ Hs σ H Q r) (s : Same H H') : KI XO H₀ Hs σ H' Q r :=
  ⟨fun l d v H2 e t => k.1 l d v H2 e (s.trans t), fun c H2 e t => k.2 c H2 e (s.trans t)⟩
def tAs (XO : XOT) (fs : List FE) : TA := fun σ H Q => ∃ H₀ Hs ρ r, G XO.cv H₀ Hs ρ σ H ∧ eArgs fs ρ = some r ∧ KI XO H₀ Hs σ H Q r
theorem PA.imp {t t' : TA} (h : PA X es t) (g : ∀ σ H Q, t' σ H Q → t σ H Q) : PA X es t' := fun pos pins s σ H Q I q => h pos pins s σ H Q I (g σ H Q q)
theorem a_nil : PA X [] (tAs XO []) := PA.imp pa_nil fun σ H Q ⟨H₀, Hs, ρ, r, g, e, k⟩ => by
  cases e
  exact k.1 2 [] [] H rfl (Same.refl H) rfl
theorem Rep.low {H₀ Hs H : Hp} (s : Same H₀ Hs) {l m : Nat} (h : l ≤ m) {d : PyData} {v : V} (r : Rep (PL H₀ Hs m) H d v) : Rep (PL H₀ Hs l) H d v := r.imp fun _ _ p => PL.le s h p
theorem Reps.low {H₀ Hs H : Hp} (s : Same H₀ Hs) {l m : Nat} (h : l ≤ m) {d : List PyData} {v : List V} (r : Reps (PL H₀ Hs m) H d v) : Reps (PL H₀ Hs l) H d v := r.imp fun _ _ p => PL.le s h p
theorem a_cons (ha : PE X e (tF XO f)) (hr : PA X es (tAs XO fs)) (hs : starEach (e :: es) X.env = (false, eval e X.env) :: starEach es X.env := by exact star_cons rfl) : PA X (e :: es) (tAs XO (f :: fs)) :=
  PA.imp (pa_cons ha hr hs) fun σ H Q ⟨H₀, Hs, ρ, r, g, e, k⟩ => by
    unfold eArgs at e
    cases hf : f ρ with
    | none => rw [hf] at e; cases e
    | some x =>
      rw [hf] at e
      cases x with
      | exc c =>
        cases e
        exact ⟨H₀, Hs, ρ, .exc c, g, hf, ⟨fun l d v H' e => (nomatch e), fun c' H' e' s => k.2 c' H' (by cases e'; rfl) s⟩⟩
      | ok l d =>
        refine ⟨H₀, Hs, ρ, .ok l d, g, hf, ⟨fun l' d' v H1 e' s1 r1 => ?_, fun c H' e => (nomatch e)⟩⟩
        cases e'
        dsimp only at e
        cases ht : eArgs fs ρ with
        | none => rw [ht] at e; cases e
        | some y =>
          rw [ht] at e
          cases y with
          | exc c =>
            cases e
            exact ⟨H₀, Hs, ρ, .exc c, g.same s1, ht, ⟨fun l d v H' e => (nomatch e), fun c' H' e' s => k.2 c' H' (by cases e'; rfl) (s1.trans s)⟩⟩
          | ok m ds =>
            cases e
            refine ⟨H₀, Hs, ρ, .ok m ds, g.same s1, ht, ⟨fun m' ds' vs H2 e' s2 r2 => ?_, fun c H' e => (nomatch e)⟩⟩
            cases e'
            exact k.1 _ _ (v :: vs) H2 rfl (s1.trans s2) ⟨v, vs, rfl, (r1.same s2).low g.s0 (Nat.min_le_left _ _), r2.low g.s0 (Nat.min_le_right _ _)⟩
theorem eArgs_len : ∀ {fs : List FE} {ρ : Rho} {l : Nat} {ds : List PyData}, eArgs fs ρ = some (.ok l ds) → ds.length = fs.length
  | [], _, _, _, e => by cases e; rfl
  | f :: fs, ρ, l, ds, e => by
    unfold eArgs at e
    cases hf : f ρ with
    | none => rw [hf] at e; cases e
    | some x =>
      rw [hf] at e
      cases x with
      | exc c => cases e
      | ok l d =>
        dsimp only at e
        cases ht : eArgs fs ρ with
        | none => rw [ht] at e; cases e
        | some y =>
          rw [ht] at e
          cases y with
          | exc c => cases e
          | ok m ds' => cases e; simp [eArgs_len ht]
theorem tAs_bind {H₀ Hs : Hp} {ρ : Rho} {σ : L2.St} {H : Hp} {Q : VK} {Q' : List V → Hp → Prop} {k : Nat → List PyData → Option RE} {r : RE} (g : G XO.cv H₀ Hs ρ σ H) (e : bindI (eArgs fs ρ) k = some r) (kk : KK XO H₀ Hs σ H Q r)
    (cont : ∀ l ds vs H1, Same H H1 → G XO.cv H₀ Hs ρ σ H1 → Reps (PL H₀ Hs l) H1 ds vs → ds.length = fs.length → k l ds = some r → KK XO H₀ Hs σ H1 Q r → Q' vs H1) : tAs XO fs σ H Q' := by
  cases h : eArgs fs ρ with
  | none => rw [h] at e; cases e
  | some x =>
    rw [h] at e
    cases x with
    | exc c =>
      cases (Option.some.inj e)
      exact ⟨H₀, Hs, ρ, .exc c, g, h, ⟨fun l d v H' e => (nomatch e), fun c' H' e' s => kk.2 c' H' (by cases e'; rfl) s⟩⟩
    | ok l ds =>
      refine ⟨H₀, Hs, ρ, .ok l ds, g, h, ⟨fun l' d' v H' e' s rp => ?_, fun c H' e => (nomatch e)⟩⟩
      cases e'
      exact cont l ds v H' s (g.same s) rp (eArgs_len h) e (kk.same s)
/-! ### displays -/
theorem x_tup {x1} (h : PA X es (tAs XO fs)) (hl : Nat.ble fs.length 1000 = true := by rfl) : PE X (.Tuple es x1 pos) (tF XO (eTup fs)) :=
  PE.imp (pe_tup h) fun σ H Q ⟨H₀, Hs, ρ, r, g, e, kk⟩ => tAs_bind g e kk fun l ds vs H1 s1 g1 r1 hn e1 k1 => by
    have hz : vs.length ≤ sizeLine := by
      rw [r1.length, hn]
      exact Nat.le_trans (Nat.le_of_ble_eq_true hl) (by decide)
    exact ⟨hz, fun p hp => k1.give e1 (same_new hp _) ⟨p, vs, rfl, upd_same, r1.same (same_new hp _)⟩⟩
theorem x_lst (h : PA X es (tAs XO fs)) (hl : Nat.ble fs.length 1000 = true := by rfl) : PE X (.List es pos) (tF XO (eLst fs)) :=
  PE.imp (pe_lst h) fun σ H Q ⟨H₀, Hs, ρ, r, g, e, kk⟩ => tAs_bind g e kk fun l ds vs H1 s1 g1 r1 hn e1 k1 => by
    have hz : vs.length ≤ sizeLine := by
      rw [r1.length, hn]
      exact Nat.le_trans (Nat.le_of_ble_eq_true hl) (by decide)
    refine ⟨hz, fun p hp => ?_⟩
    split at e1
    · rename_i f1
      exact k1.give e1 (same_new hp _) ⟨p, vs, rfl, .inl ⟨⟨rfl, g1.s1.free hp⟩, upd_same⟩, (r1.nl f1).same (same_new hp _)⟩
    · cases e1
/-! ### a[b], a[b:c] -/
theorem atP_eq {α : Type} (xs : List α) (i : Int) : atP xs i = atI xs i := rfl
theorem Reps.atI {P : PP} {H : Hp} {ds : List PyData} {vs : List V} {i : Int} {d : PyData} (r : Reps P H ds vs) (h : atP ds i = some d) : ∃ v, L2.atI vs i = some v ∧ Rep P H d v := by
  rw [atP_eq] at h
  unfold L2.atI at h ⊢
  rw [r.length]
  cases q : ixN ds.length i with
  | none => rw [q] at h; cases h
  | some j =>
    rw [q] at h
    exact r.get h
theorem od_ix {K : PySem.W.Frag} : OpD (rIx K) dIx false := by
  intro H₀ Hs H l m x y d v u Q s0 s1 e rx ry q
  unfold dIx at e
  split at e
  · rename_i xs i
    obtain ⟨pa, vs, rfl, ha, ra⟩ := rx
    cases (show u = .int i from ry)
    obtain ⟨z, hz, rz⟩ := ra.atI e
    exact .inr (.inl ⟨pa, vs, i, z, rfl, rfl, SqT.of ha, hz, q z H (Same.refl H) (rz.low s0 (Nat.min_le_left _ _))⟩)
  · rename_i xs i
    obtain ⟨pa, vs, rfl, ha, ra⟩ := rx
    cases (show u = .int i from ry)
    obtain ⟨z, hz, rz⟩ := ra.atI e
    exact .inl ⟨pa, vs, i, z, rfl, rfl, .inl ha.rd, hz, q z H (Same.refl H) (rz.low s0 (Nat.min_le_left _ _))⟩
  · rename_i z i
    split at e
    · rename_i hz
      cases (show v = .str z from rx)
      cases (show u = .int i from ry)
      cases hc : atP z.cps.toList i with
      | none => rw [hc] at e; cases e
      | some c =>
        rw [hc] at e
        cases e
        exact .inr (.inr ⟨z, i, c, rfl, rfl, le_big hz, hc, q _ H (Same.refl H) rfl⟩)
    · cases e
  · cases e
theorem x_at (ha : PE X a (tF XO fa)) (hb : PE X b (tF XO fb)) (hs : PlainIx b := by exact fun _ _ => rfl) : PE X (.Subscript a b pos) (tF XO (eIx fa fb)) := x_ix ix_seq od_ix ha hb hs
/-- the part of a slice -/
def tO (XO : XOT) (f : FO) : TO := fun σ H Q => ∃ H₀ Hs ρ r, G XO.cv H₀ Hs ρ σ H ∧ f ρ = some r ∧ (∀ i H', r = .ok i → Same H H' → Q i H') ∧ ∀ c H', r = .exc c → Same H H' → XO.f c σ H'
theorem PO.imp {o : Option Expr} {t t' : TO} (h : PO X o t) (g : ∀ σ H Q, t' σ H Q → t σ H Q) : PO X o t' := fun pins s σ H Q I q => h pins s σ H Q I (g σ H Q q)
theorem o_none : PO X none (tO XO oNone) := PO.imp po_none fun σ H Q ⟨H₀, Hs, ρ, r, g, e, k, _⟩ => by
  cases e
  exact k none H rfl (Same.refl H)
theorem o_some (h : PE X a (tF XO fa)) : PO X (some a) (tO XO (oSome fa)) := PO.imp (po_some h) fun σ H Q ⟨H₀, Hs, ρ, r, g, e, k, kx⟩ => by
  unfold oSome at e
  split at e
  · rename_i l i hf
    cases e
    refine ⟨H₀, Hs, ρ, _, g, hf, ⟨fun l' d' v H' e' s rp => ?_, fun c H' e => (nomatch e)⟩⟩
    cases e'
    exact ⟨i, rp, k _ H' rfl s⟩
  · rename_i c hf
    cases e
    exact ⟨H₀, Hs, ρ, _, g, hf, ⟨fun l d v H' e => (nomatch e), fun c' H' e' s => kx c' H' (by cases e'; rfl) s⟩⟩
  · cases e
theorem sxP_eq (n d : Nat) (o : Option Int) : sxP n d o = HT.sIx n d o := by
  cases o with
  | none => rfl
  | some v =>
    have h := HT.clip_eq v n d
    show (if v < 0 then (v + n).toNat else min v.toNat n) = HT.sIx n d (some v)
    by_cases hv : v < 0
    · rw [if_pos hv] at h ⊢
      omega
    · rw [if_neg hv] at h ⊢
      omega
theorem cut_rep {P : PP} {H : Hp} {ds : List PyData} {vs : List V} (r : Reps P H ds vs) (lo hi : Option Int) : Reps P H (cutP ds lo hi) (cutV vs lo hi) := by
  unfold cutP cutV
  rw [sxP_eq, sxP_eq, r.length]
  exact (r.drop _).take _
/-- t[lo:hi], the whole of it: t itself -/
theorem getItem_tuple_all {prog : Program} {w : World} {A : Around} {E : Value → Shared → Prop} {s : Shared} {t sl : Addr} {items : Array Value} {vl vu : Value} {lo hi : Option Int} {Q : Value → Shared → Prop} (ht : IsTup s.heap t items) (hs : s.heap.IsSliceOf sl vl vu .none) (pl : IsPart vl lo) (pu : IsPart vu hi)
    (h1 : HT.sIx items.size 0 lo = 0) (h2 : HT.sIx items.size items.size hi = items.size) (h : Q (.ref t) s) : wpAny (model prog w) A (getItem (.ref t) (.ref sl)) Q E s := by
  obtain ⟨os, hos, hcs, hds⟩ := id hs
  have hTs : s.TypeIs (.ref sl) "slice" := ⟨os, hos, hcs⟩
  obtain ⟨ot, hot, hct, nt, hdt⟩ := id ht
  unfold getItem
  try with_reducible refine wpAny_holding ?_
  first | refine wpAny_bind (wpAny_pure ?_) | skip
  refine wpAny_bind (wpAny_sequenceKey ht.typeIs (by decide) ?_)
  refine wpAny_bind (wpAny_callSpecial?_slot (name := Str.ofString "__getitem__") ht.typeIs PyProof.Rows.slot_tuple_getitem
    (wpAny_call_entry PyProof.Rows.slot_tuple_getitem ht.typeIs entry_tuple_getitem ?_ (args_tuple_getitem _ _)))
  show wpAny _ _ (Builtin.Tuple.tupleItemsOf (.ref t) >>= _) _ _ s
  refine wpAny_bind (tupleItemsOf_ ht ?_)
  refine wpAny_bind (wpAny_typeOf hTs ?_)
  rw [if_pos (by decide)]
  refine wpAny_bind (HT.sliceApplied_gen hs pl pu ?_)
  rw [h1, h2]
  show wpAny _ _ (if (((0 : Nat) : Int) == 0 && (1 : Int) == 1 && (items.size - 0) == items.size) = true then (Builtin.Tuple.tupleIsExact (.ref t) >>= _) else _) _ _ s
  rw [if_pos (by simp)]
  refine wpAny_bind ?_
  unfold Builtin.Tuple.tupleIsExact
  refine wpAny_bind (wpAny_typeOf ht.typeIs (wpAny_pure ?_))
  rw [if_pos (by decide)]
  exact wpAny_bind (wpAny_rule (wpAny_pure ⟨_, rfl, wpAny_pure h⟩))
def rSlA (K : PySem.W.Frag) : V → Option Int → Option Int → Hp → VK → Prop := fun x lo hi H Q => ∃ a xs, x = .ref a ∧ SqT K H a xs ∧ HT.sIx xs.length 0 lo = 0 ∧ HT.sIx xs.length xs.length hi = xs.length ∧ Q (.ref a) H
theorem sl_all : SlR X (rSlA X.K) := by
  intro pins s σ H x v vl vu lo hi sl Q I rx hs pl pu h
  obtain ⟨a, xs, rfl, hx, h1, h2, q⟩ := h
  cases rx
  obtain ⟨its, r, ht, hz⟩ := I.tuple hx
  have hlen : its.toArray.size = xs.length := by rw [List.size_toArray]; exact r.length.symm
  exact ⟨"tuple", _, PyProof.Rows.slot_tuple_getitem.lookup, ht.typeIs, getItem_tuple_all ht hs pl pu (by rw [hlen]; exact h1) (by rw [hlen]; exact h2) ⟨.ref a, H, I, rfl, q⟩⟩
theorem x_sl {lo hi : Option Expr} {flo fhi : FO} {p2 : Pos} (ha : PE X a (tF XO fa)) (hl : PO X lo (tO XO flo)) (hh : PO X hi (tO XO fhi)) : PE X (.Subscript a (.Slice lo hi none p2) pos) (tF XO (eSl fa flo fhi)) :=
  PE.imp (pe_slice (sl_all.or (sl_tup.or sl_list)) ha hl hh) fun σ H Q ⟨H₀, Hs, ρ, r, g, e, kk⟩ => tF_bind g e kk fun l x v H1 s1 g1 r1 e1 k1 => by
    split at e1
    · rename_i lo' hlo
      refine ⟨H₀, Hs, ρ, _, g1, hlo, fun i H2 ei s2 => ?_, fun c H' e => (nomatch e)⟩
      cases ei
      split at e1
      · rename_i hi' hhi
        refine ⟨H₀, Hs, ρ, _, g1.same s2, hhi, fun j H3 ej s3 => ?_, fun c H' e => (nomatch e)⟩
        cases ej
        have r3 := r1.same (s2.trans s3)
        have k3 := k1.same (s2.trans s3)
        have g3 := g1.same (s2.trans s3)
        cases hd : dSl lo' hi' x with
        | none => rw [hd] at e1; cases e1
        | some d =>
          rw [hd] at e1
          unfold dSl at hd
          split at hd
          · split at hd
            · rename_i f1
              cases hd
              obtain ⟨pa, vs, rfl, hp, ra⟩ := r3
              by_cases hw : HT.sIx vs.length 0 lo' = 0 ∧ HT.sIx vs.length vs.length hi' = vs.length
              · refine .inl ⟨pa, vs, rfl, SqT.of hp, hw.1, hw.2, k3.give e1 (Same.refl _) ⟨pa, vs, rfl, hp, ?_⟩⟩
                have hc := cut_rep (ra.nl (P' := PL H₀ Hs 2) f1) lo' hi'
                unfold cutV at hc
                rw [hw.1, hw.2, Nat.sub_zero, List.drop_zero, List.take_length] at hc
                exact hc
              · refine .inr (.inl ⟨pa, vs, rfl, SqT.of hp, hw, fun p hpn => ?_⟩)
                exact k3.give e1 (same_new hpn _) ⟨p, _, rfl, upd_same, (cut_rep (ra.nl f1) _ _).same (same_new hpn _)⟩
            · cases hd
          · split at hd
            · rename_i f1
              cases hd
              obtain ⟨pa, vs, rfl, hp, ra⟩ := r3
              refine .inr (.inr ⟨pa, vs, rfl, .inl hp.rd, fun p hpn => ?_⟩)
              exact k3.give e1 (same_new hpn _) ⟨p, _, rfl, .inl ⟨⟨rfl, g3.s1.free hpn⟩, upd_same⟩, (cut_rep (ra.nl f1) _ _).same (same_new hpn _)⟩
            · cases hd
          · cases hd
      · rename_i c hhi
        cases e1
        exact ⟨H₀, Hs, ρ, _, g1.same s2, hhi, fun j H3 ej s3 => (nomatch ej), fun c' H' e' s => k1.2 c' H' (by cases e'; rfl) (s2.trans s)⟩
      · cases e1
    · rename_i c hlo
      cases e1
      exact ⟨H₀, Hs, ρ, _, g1, hlo, fun j H3 ej s3 => (nomatch ej), fun c' H' e' s => k1.2 c' H' (by cases e'; rfl) s⟩
    · cases e1
end
end KT
set_option Elab.async false
set_option linter.all false
set_option maxRecDepth 100000
namespace KT
open PySem PySem.Spec PyProof.Rows L2

/-! ### the state of a body: F, what stays; O, whose own list an address is -/
abbrev Own := Addr → Option Nat
/-- the error classes by number; how many names a body has -/
structure Cfg where
  cv : Nat → Value
  n : Nat
/-- what a def may have of its own: a list, a dict of True -/
inductive OwV where
  | l (vs : List V) | k (kvs : List (Key × V)) | n (ks : List PyData)
def OwV.ho : OwV → HO
  | .l vs => .lst vs
  | .k kvs => .dK kvs
  | .n ks => .dN ks
theorem DR.ow {H : Hp} {ks : List PyData} {a : Addr} (h : DR H ks a) : ∃ vs : OwV, H a = some vs.ho := by
  rcases h with ⟨is, e, h⟩ | ⟨n, h⟩
  · exact ⟨.k _, h⟩
  · exact ⟨.n _, h⟩
def SS (cv : Cfg) (H₀ : Hp) (O : Own) (o : Option (Option V)) (i : Nat) (H : Hp) : Slot → Prop
  | .par d => ∃ v, o = some (some v) ∧ Rep (fun _ a => O a = none) H d v
  | .loc d => ∃ v, o = some (some v) ∧ Rep (fun z a => z = false ∧ O a = none ∧ H₀ a = none) H d v
  | .own ds => ∃ p vs, o = some (some (.ref p)) ∧ O p = some i ∧ H p = some (.lst vs) ∧ Reps (fun _ _ => False) H ds vs
  | .own2 ds => ∃ p vs, o = some (some (.ref p)) ∧ O p = some i ∧ H p = some (.lst vs) ∧ Reps (fun z a => z = false ∧ O a = none ∧ H₀ a = none) H ds vs
  | .dct ks => ∃ a, o = some (some (.ref a)) ∧ O a = some i ∧ DR H ks a
  | .ex c => ∃ a, o = some (some (.ref a)) ∧ XRep cv.cv H c a
structure SO (cv : Cfg) (H₀ F : Hp) (ρ : Rho) (σ : L2.St) (H : Hp) (O : Own) : Prop where
  fr : ∀ a i, O a = some i → F a = none
  ls : ∀ a i, O a = some i → ∃ vs : OwV, H a = some vs.ho
  sl : ∀ i t, ρ[i]? = some (some t) → SS cv H₀ O σ[i]? i H t
structure SR (cv : Cfg) (H₀ F : Hp) (ρ : Rho) (σ : L2.St) (H : Hp) : Prop where
  s0 : Same H₀ F
  s1 : Same F H
  len : ρ.length = cv.n
  ln : σ.length = cv.n
  ex : ∃ O, SO cv H₀ F ρ σ H O
theorem SS.same {cv : Cfg} {H₀ H H' : Hp} {O : Own} {o : Option (Option V)} {i : Nat} (s : Same H H') : ∀ {t : Slot}, SS cv H₀ O o i H t → SS cv H₀ O o i H' t
  | .par _, ⟨v, e, h⟩ => ⟨v, e, h.same s⟩
  | .loc _, ⟨v, e, h⟩ => ⟨v, e, h.same s⟩
  | .own _, ⟨p, vs, e, q, h, r⟩ => ⟨p, vs, e, q, s _ _ h, r.same s⟩
  | .own2 _, ⟨p, vs, e, q, h, r⟩ => ⟨p, vs, e, q, s _ _ h, r.same s⟩
  | .dct _, ⟨a, e, q, h⟩ => ⟨a, e, q, h.same s⟩
  | .ex _, ⟨a, e, h⟩ => ⟨a, e, h.same s⟩
theorem SR.same {cv : Cfg} {H₀ F H H' : Hp} {ρ : Rho} {σ : L2.St} (r : SR cv H₀ F ρ σ H) (s : Same H H') : SR cv H₀ F ρ σ H' :=
  ⟨r.s0, r.s1.trans s, r.len, r.ln, let ⟨O, o⟩ := r.ex; ⟨O, o.fr, fun a i e => let ⟨vs, q⟩ := o.ls a i e; ⟨vs, s _ _ q⟩, fun i t e => (o.sl i t e).same s⟩⟩
theorem SR.g {cv : Cfg} {H₀ F H : Hp} {ρ : Rho} {σ : L2.St} (r : SR cv H₀ F ρ σ H) : G cv.cv H₀ H ρ σ H := by
  refine ⟨r.s0.trans r.s1, Same.refl H, fun i t e => ?_⟩
  obtain ⟨O, o⟩ := r.ex
  have h := o.sl i t e
  cases t with
  | par d => obtain ⟨v, e, q⟩ := h; exact ⟨v, e, q.imp fun _ _ _ => trivial⟩
  | loc d => obtain ⟨v, e, q⟩ := h; exact ⟨v, e, q.imp fun _ _ p => ⟨p.1, p.2.2⟩⟩
  | own ds =>
    obtain ⟨p, vs, e, q, h, rs⟩ := h
    exact ⟨.ref p, e, p, vs, rfl, .inl ⟨⟨rfl, r.s0.free (o.fr p i q)⟩, h⟩, rs.imp fun _ _ z => z.elim⟩
  | own2 ds =>
    obtain ⟨p, vs, e, q, h, rs⟩ := h
    exact ⟨.ref p, e, p, vs, rfl, .inl ⟨⟨rfl, r.s0.free (o.fr p i q)⟩, h⟩, rs.imp fun _ _ z => ⟨z.1, z.2.2⟩⟩
  | dct ks => obtain ⟨a, e, q, h⟩ := h; exact ⟨a, e, h⟩
  | ex c => exact h
/-- what is wanted behind a statement -/
def KS (cv : Cfg) (XO : XOF) (H₀ F : Hp) (D : Ends) (r : RS) : Prop :=
  match r with
  | .next ρ' => ∀ σ' H', SR cv H₀ F ρ' σ' H' → D.nx σ' H'
  | .ret d => ∀ v H', Same F H' → Rep (fun z a => z = false ∧ H₀ a = none) H' d v → D.rt v H'
  | .exc c ρ' => ∀ σ' H', SR cv H₀ F ρ' σ' H' → XO c σ' H'
  | .brk ρ' => ∀ σ' H', SR cv H₀ F ρ' σ' H' → D.bk σ' H'
  | .cont ρ' => ∀ σ' H', SR cv H₀ F ρ' σ' H' → D.ct σ' H'
def tS (cv : Cfg) (XO : XOF) (f : FS) : TS := fun D σ H => ∃ H₀ F ρ r, SR cv H₀ F ρ σ H ∧ f ρ = some r ∧ KS cv XO H₀ F D r
section
variable {X : Cx} {XO : XOF} {cv : Cfg} {e : Expr} {f fa fb : FE} {st : Stmt} {rest sa sb : List Stmt} {a b : FS} {pos : Pos}
theorem PSs.imp {sts : List Stmt} {t t' : TS} (h : PSs X sts t) (g : ∀ D σ H, t' D σ H → t D σ H) : PSs X sts t' := fun pins s σ H D I q => h pins s σ H D I (g D σ H q)
/-- an expression at a statement's start -/
theorem tS_bind {H₀ F : Hp} {ρ : Rho} {σ : L2.St} {H : Hp} {D : Ends} {Q : VK} {k : Nat → PyData → Option RS} {r : RS} (g : SR cv H₀ F ρ σ H) (e : bindS (f ρ) ρ k = some r) (kk : KS cv XO H₀ F D r)
    (cont : ∀ l d v H1, Same H H1 → Rep (PL H₀ H l) H1 d v → k l d = some r → Q v H1) : tF ⟨cv.cv, XO⟩ f σ H Q := by
  cases h : f ρ with
  | none => rw [h] at e; cases e
  | some x =>
    rw [h] at e
    cases x with
    | exc c =>
      cases (Option.some.inj e)
      refine ⟨H₀, H, ρ, .exc c, g.g, h, ⟨fun l d v H' e => (nomatch e), fun c' H' e' s => ?_⟩⟩
      cases e'
      exact kk σ H' (g.same s)
    | ok l d =>
      refine ⟨H₀, H, ρ, .ok l d, g.g, h, ⟨fun l' d' v H' e' s rp => ?_, fun c H' e => (nomatch e)⟩⟩
      cases e'
      exact cont l d v H' s rp e
/-! ### blocks -/
theorem b_nil : PSs X [] (tS cv XO sNext) := PSs.imp pss_nil fun D σ H ⟨H₀, F, ρ, r, g, e, k⟩ => by
  cases e
  exact k σ H g
theorem b_one (h : PS X st (tS cv XO a)) : PSs X [st] (tS cv XO a) := pss_one h
theorem b_cons (h : PS X st (tS cv XO a)) (t : PSs X rest (tS cv XO b)) : PSs X (st :: rest) (tS cv XO (sSeq a b)) := PSs.imp (pss_cons h t) fun D σ H ⟨H₀, F, ρ, r, g, e, k⟩ => by
  unfold sSeq at e
  cases ha : a ρ with
  | none => rw [ha] at e; cases e
  | some x =>
    rw [ha] at e
    cases x with
    | next ρ' => exact ⟨H₀, F, ρ, .next ρ', g, ha, fun σ' H' g' => ⟨H₀, F, ρ', r, g', e, k⟩⟩
    | ret d => cases e; exact ⟨H₀, F, ρ, .ret d, g, ha, k⟩
    | exc c ρ' => cases e; exact ⟨H₀, F, ρ, .exc c ρ', g, ha, k⟩
    | brk ρ' => cases e; exact ⟨H₀, F, ρ, .brk ρ', g, ha, k⟩
    | cont ρ' => cases e; exact ⟨H₀, F, ρ, .cont ρ', g, ha, k⟩
theorem s_ret (h : PE X e (tF ⟨cv.cv, XO⟩ f)) : PS X (.Return (some e) pos) (tS cv XO (sRet f)) :=
  PS.imp (ps_ret h) fun D σ H ⟨H₀, F, ρ, r, g, e, k⟩ => tS_bind g e k fun l d v H1 s1 r1 e1 => by
    split at e1
    · rename_i hc
      cases e1
      refine k v H1 (g.s1.trans s1) ?_
      by_cases hl : lf d = true
      · exact r1.nl hl
      · have h1 : 1 ≤ l := by
          rw [Bool.or_eq_true] at hc
          exact of_decide_eq_true (hc.resolve_left hl)
        exact r1.imp fun z a p => PL.le (g.s0.trans g.s1) h1 p
    · cases e1
theorem s_if {c : Expr} {fc : FE} (hc : PT X c (tTest (tF ⟨cv.cv, XO⟩ fc))) (ha : PSs X sa (tS cv XO a)) (hb : PSs X sb (tS cv XO b)) : PS X (.If c sa sb pos) (tS cv XO (sIf fc a b)) :=
  PS.imp (ps_if hc ha hb) fun D σ H ⟨H₀, F, ρ, r, g, e, k⟩ => tS_bind g e k fun l d v H1 s1 r1 e1 => by
    split at e1
    · exact ⟨true, r1, L2.iteT (⟨H₀, F, ρ, r, g.same s1, e1, k⟩)⟩
    · exact ⟨false, r1, L2.iteF (⟨H₀, F, ρ, r, g.same s1, e1, k⟩)⟩
    · cases e1
/-! ### x = e -/
theorem hp_ne {H : Hp} {a : Addr} {o : HO} (e : H a = some o) : H a ≠ none := by rw [e]; simp
theorem set_get {α : Type} (xs : List α) (i j : Nat) (v : α) (hi : i < xs.length) : (xs.set i v)[j]? = if i = j then some v else xs[j]? := by
  by_cases h : i = j
  · subst h; simp [hi]
  · simp [h]
/-- a slot is set: what it holds is fresh, or without lists -/
theorem SR.set {H₀ F H H1 : Hp} {ρ : Rho} {σ : L2.St} {i l : Nat} {d : PyData} {v : V} {t : Slot} (g : SR cv H₀ F ρ σ H) (hi' : Nat.blt i cv.n = true) (s1 : Same H H1) (r1 : Rep (PL H₀ H l) H1 d v) (ha : asg l d = some t) :
    SR cv H₀ F (ρ.set i (some t)) (σ.set i (some v)) H1 := by
  obtain ⟨O, o⟩ := g.ex
  have o1 : SO cv H₀ F ρ σ H1 O := ⟨o.fr, fun a i e => let ⟨vs, q⟩ := o.ls a i e; ⟨vs, s1 _ _ q⟩, fun i t e => (o.sl i t e).same s1⟩
  have hi : i < σ.length := by rw [g.ln]; exact Nat.ble_eq.mp hi'
  have hρ : i < ρ.length := by rw [g.len]; exact Nat.ble_eq.mp hi'
  -- the others stay, whatever new address is owned
  have keep : ∀ (O' : Own), (∀ a, H a ≠ none → O' a = O a) → ∀ j t', i ≠ j → (ρ.set i (some t))[j]? = some (some t') → SS cv H₀ O' (σ.set i (some v))[j]? j H1 t' := fun O' hO j t' hij e => by
    rw [set_get _ _ _ _ hρ, if_neg hij] at e
    rw [set_get _ _ _ _ hi, if_neg hij]
    have q := o.sl j t' e
    have old : ∀ {P P' : PP}, (∀ z a, H a ≠ none → P z a → P' z a) → ∀ {d : PyData} {v : V}, Rep P H d v → Rep P' H1 d v := fun {P P'} hP {d v} r =>
      Rep.mono (fun a vs e => s1 _ _ e) (fun a vs r => by
        rcases r with ⟨p, e⟩ | ⟨p, u, e⟩
        · exact .inl ⟨hP _ _ (hp_ne e) p, s1 _ _ e⟩
        · exact .inr ⟨hP _ _ (hp_ne e) p, u, s1 _ _ e⟩) d v r
    cases t' with
    | par d => obtain ⟨w, e, r⟩ := q; exact ⟨w, e, old (fun z a n p => by rw [hO a n]; exact p) r⟩
    | loc d => obtain ⟨w, e, r⟩ := q; exact ⟨w, e, old (fun z a n p => by rw [hO a n]; exact p) r⟩
    | own ds =>
      obtain ⟨p, vs, e, q, h, rs⟩ := q
      exact ⟨p, vs, e, by rw [hO p (hp_ne h)]; exact q, s1 _ _ h, rs.same s1⟩
    | own2 ds =>
      obtain ⟨p, vs, e, q, h, rs⟩ := q
      exact ⟨p, vs, e, by rw [hO p (hp_ne h)]; exact q, s1 _ _ h, Reps.mono (fun a vs e => s1 _ _ e) (fun a vs r => by
        rcases r with ⟨p, e⟩ | ⟨p, u, e⟩
        · exact .inl ⟨⟨p.1, (hO a (hp_ne e)).trans p.2.1, p.2.2⟩, s1 _ _ e⟩
        · exact .inr ⟨⟨p.1, (hO a (hp_ne e)).trans p.2.1, p.2.2⟩, u, s1 _ _ e⟩) ds _ rs⟩
    | dct ks => obtain ⟨a, e, q, h⟩ := q; obtain ⟨_, hw⟩ := h.ow; exact ⟨a, e, by rw [hO a (hp_ne hw)]; exact q, h.same s1⟩
    | ex c => obtain ⟨a, e, x⟩ := q; exact ⟨a, e, x.same s1⟩
  have fin : ∀ (O' : Own), (∀ a, H a ≠ none → O' a = O a) → (∀ a i, O' a = some i → F a = none) → (∀ a i, O' a = some i → ∃ vs : OwV, H1 a = some vs.ho) → SS cv H₀ O' (some (some v)) i H1 t → SR cv H₀ F (ρ.set i (some t)) (σ.set i (some v)) H1 := fun O' hO hF hL ht =>
    ⟨g.s0, g.s1.trans s1, by simp [g.len], by simp [g.ln], O', hF, hL, fun j t' e => by
      by_cases hij : i = j
      · subst hij
        rw [set_get _ _ _ _ hρ, if_pos rfl] at e
        cases e
        rw [set_get _ _ _ _ hi, if_pos rfl]
        exact ht
      · exact keep O' hO j t' hij e⟩
  unfold asg at ha
  split at ha
  · rename_i hl
    cases ha
    exact fin O (fun _ _ => rfl) o.fr o1.ls ⟨v, rfl, r1.nl hl⟩
  · split at ha
    · rename_i h2
      have young : ∀ z a, PL H₀ H l z a → z = false ∧ O a = none ∧ H₀ a = none := fun z a p => by
        have p2 : z = false ∧ H a = none := by
          match l, h2, p with
          | l + 2, _, p => exact p
        refine ⟨p2.1, ?_, (g.s0.trans g.s1).free p2.2⟩
        cases q : O a with
        | none => rfl
        | some j => obtain ⟨vs, e⟩ := o.ls a j q; rw [p2.2] at e; cases vs <;> cases e
      split at ha
      · rename_i ds
        split at ha
        · rename_i hf
          cases ha
          obtain ⟨p, vs, rfl, rl, rs⟩ := r1
          rcases rl with ⟨y, e⟩ | ⟨y, u, e⟩
          · have hn : H p = none := by
              match l, h2, y with
              | l + 2, _, y => exact y.2
            refine fin (fun a => if a = p then some i else O a) (fun a n => ?_) (fun a j q => ?_) (fun a j q => ?_) ⟨p, vs, rfl, by simp, e, rs.nl hf⟩
            · rw [if_neg]
              intro z; subst z; exact n hn
            · by_cases z : a = p
              · subst z; exact g.s1.free hn
              · rw [if_neg z] at q; exact o.fr a j q
            · by_cases z : a = p
              · subst z; exact ⟨.l vs, e⟩
              · rw [if_neg z] at q; exact o1.ls a j q
          · exact absurd (young _ _ y).1 (by simp)
        · cases ha
          exact fin O (fun _ _ => rfl) o.fr o1.ls ⟨v, rfl, r1.imp young⟩
      · cases ha
        exact fin O (fun _ _ => rfl) o.fr o1.ls ⟨v, rfl, r1.imp young⟩
    · cases ha
theorem s_set (i : Nat) {x : Str} {pos' : Pos} (hN : X.N.Nodup) (h : PE X e (tF ⟨cv.cv, XO⟩ f)) (hi : X.N[i]? = some x := by rfl) (hx : Loc X.env.scope x := by first | exact Or.inl rfl | exact Or.inr rfl)
    (hs : swapsWith e (some (.Name x pos')) pos.line X.env = pure false := by rfl) (hf : X.fn x = true ∨ X.env.scope.names.lookup x = some .local := by first | exact .inl rfl | exact .inr rfl | assumption)
    (hin : Nat.blt i cv.n = true := by rfl) : PS X (.Assign [.Name x pos'] e pos) (tS cv XO (sSet i f)) := by
  intro pins s σ H D I ⟨H₀, F, ρ, r, g, e', k⟩
  refine ps_set hN hi hx h hs hf pins s σ H D I ?_
  refine tS_bind g e' k fun l d v H1 s1 r1 e1 => ?_
  cases ha : asg l d with
  | none => rw [ha] at e1; cases e1
  | some t =>
    rw [ha] at e1
    cases e1
    exact k _ _ (g.set hin s1 r1 ha)
end
end KT
set_option Elab.async false
set_option linter.all false
set_option maxRecDepth 100000
namespace KT
open PySem PySem.Spec PyProof.Rows L2
section
variable {X : Cx} {XO : XOF} {cv : Cfg} {e : Expr} {f fa fb : FE} {st : Stmt} {rest sa sb : List Stmt} {a b : FS} {pos : Pos}
variable {H₀ F H H1 : Hp} {ρ : Rho} {σ : L2.St}
/-- data that the heap bears without any list -/
theorem Rep.none_lf {P : PP} {d : PyData} {v : V} (r : Rep (fun _ _ => False) H d v) : Rep P H d v := r.imp fun _ _ z => z.elim
/-- a slot is set to what holds no list of others -/
theorem SR.put {i : Nat} {v : V} {t : Slot} (g : SR cv H₀ F ρ σ H) (hi' : Nat.blt i cv.n = true) (ht : ∀ O, SO cv H₀ F ρ σ H O → SS cv H₀ O (some (some v)) i H t) : SR cv H₀ F (ρ.set i (some t)) (σ.set i (some v)) H := by
  obtain ⟨O, o⟩ := g.ex
  have hi : i < σ.length := by rw [g.ln]; exact Nat.ble_eq.mp hi'
  have hρ : i < ρ.length := by rw [g.len]; exact Nat.ble_eq.mp hi'
  refine ⟨g.s0, g.s1, by simp [g.len], by simp [g.ln], O, o.fr, o.ls, fun j t' e => ?_⟩
  by_cases hij : i = j
  · subst hij
    rw [set_get _ _ _ _ hρ, if_pos rfl] at e
    cases e
    rw [set_get _ _ _ _ hi, if_pos rfl]
    exact ht O o
  · rw [set_get _ _ _ _ hρ, if_neg hij] at e
    rw [set_get _ _ _ _ hi, if_neg hij]
    exact o.sl j t' e
theorem SR.putLoc {i : Nat} {v : V} {d : PyData} (g : SR cv H₀ F ρ σ H) (hi : Nat.blt i cv.n = true) (r : Rep (fun _ _ => False) H d v) : SR cv H₀ F (ρ.set i (some (.loc d))) (σ.set i (some v)) H :=
  g.put hi fun O o => ⟨v, rfl, r.none_lf⟩
theorem DR.upd {ks : List PyData} {a p : Addr} {o : HO} (h : DR H ks a) (hne : a ≠ p) : DR (upd H p o) ks a := by
  rcases h with ⟨is, e, h⟩ | ⟨n, h⟩
  · exact .inl ⟨is, e, by rw [upd_ne hne]; exact h⟩
  · exact .inr ⟨n, by rw [upd_ne hne]; exact h⟩
/-- a list of one's own has changed -/
theorem SR.change {i : Nat} {ds ds' : List PyData} {p : Addr} {vs vs' : List V} {O : Own} (g : SR cv H₀ F ρ σ H) (o : SO cv H₀ F ρ σ H O) (hi : ρ[i]? = some (some (.own ds))) (hσ : σ[i]? = some (some (.ref p))) (hO : O p = some i) (hp : H p = some (.lst vs)) (r : Reps (fun _ _ => False) H ds' vs') :
    SR cv H₀ F (ρ.set i (some (.own ds'))) σ (upd H p (.lst vs')) := by
  have hρ : i < ρ.length := (List.getElem?_eq_some_iff.mp hi).1
  have hT : ∀ a xs, H a = some (.tup xs) → upd H p (.lst vs') a = some (.tup xs) := fun a xs e => by
    rw [upd_ne]
    · exact e
    · intro z; subst z; rw [hp] at e; cases e
  have hR : ∀ {P : PP}, (∀ z a, P z a → O a = none) → ∀ (d : PyData) (v : V), Rep P H d v → Rep P (upd H p (.lst vs')) d v := fun {P} hP d v r =>
    Rep.mono hT (fun a ws rl => by
      have hne : ∀ z, P z a → a ≠ p := fun z q y => by have := hP z a q; rw [y, hO] at this; cases this
      rcases rl with ⟨q, e⟩ | ⟨q, u, e⟩
      · exact .inl ⟨q, by rw [upd_ne (hne _ q)]; exact e⟩
      · exact .inr ⟨q, u, by rw [upd_ne (hne _ q)]; exact e⟩) d v r
  have hF : ∀ {ds : List PyData} {ws : List V}, Reps (fun _ _ => False) H ds ws → Reps (fun _ _ => False) (upd H p (.lst vs')) ds ws := fun {ds ws} r =>
    Reps.mono hT (fun a ws rl => by rcases rl with ⟨q, _⟩ | ⟨q, _⟩ <;> exact q.elim) ds ws r
  refine ⟨g.s0, fun b u e => ?_, by simp [g.len], g.ln, O, o.fr, fun a j e => ?_, fun j t e => ?_⟩
  · rw [upd_ne]
    · exact g.s1 b u e
    · intro z; subst z; rw [o.fr b i hO] at e; cases e
  · by_cases z : a = p
    · subst z; exact ⟨.l vs', upd_same⟩
    · rw [upd_ne z]; exact o.ls a j e
  · by_cases hij : i = j
    · subst hij
      rw [set_get _ _ _ _ hρ, if_pos rfl] at e
      cases e
      exact ⟨p, vs', hσ, hO, upd_same, hF r⟩
    · rw [set_get _ _ _ _ hρ, if_neg hij] at e
      have q := o.sl j t e
      cases t with
      | par d => obtain ⟨w, e1, rr⟩ := q; exact ⟨w, e1, hR (fun _ _ x => x) d w rr⟩
      | loc d => obtain ⟨w, e1, rr⟩ := q; exact ⟨w, e1, hR (fun _ _ x => x.2.1) d w rr⟩
      | own ds =>
        obtain ⟨q1, ws, e1, hq, hqp, rs⟩ := q
        have hne : q1 ≠ p := fun z => by rw [z, hO] at hq; cases hq; exact hij rfl
        exact ⟨q1, ws, e1, hq, by rw [upd_ne hne]; exact hqp, hF rs⟩
      | own2 ds =>
        obtain ⟨q1, ws, e1, hq, hqp, rs⟩ := q
        have hne : q1 ≠ p := fun z => by rw [z, hO] at hq; cases hq; exact hij rfl
        exact ⟨q1, ws, e1, hq, by rw [upd_ne hne]; exact hqp, Reps.mono hT (fun a ws rl => by
          have hne : ∀ z, (z = false ∧ O a = none ∧ H₀ a = none) → a ≠ p := fun z q y => by have := q.2.1; rw [y, hO] at this; cases this
          rcases rl with ⟨q, e⟩ | ⟨q, u, e⟩
          · exact .inl ⟨q, by rw [upd_ne (hne _ q)]; exact e⟩
          · exact .inr ⟨q, u, by rw [upd_ne (hne _ q)]; exact e⟩) ds ws rs⟩
      | dct ks =>
        obtain ⟨q1, e1, hq, hd⟩ := q
        have hne : q1 ≠ p := fun z => by rw [z, hO] at hq; cases hq; exact hij rfl
        exact ⟨q1, e1, hq, hd.upd hne⟩
      | ex c =>
        obtain ⟨w, e1, φ, hx, hφ⟩ := q
        have hne : w ≠ p := fun z => by rw [z, hp] at hx; cases hx
        exact ⟨w, e1, φ, by rw [upd_ne hne]; exact hx, hφ⟩
theorem SR.own {i : Nat} {ds : List PyData} (g : SR cv H₀ F ρ σ H) (hi : ρ[i]? = some (some (.own ds))) : ∃ O p vs, SO cv H₀ F ρ σ H O ∧ σ[i]? = some (some (.ref p)) ∧ O p = some i ∧ H p = some (.lst vs) ∧ Reps (fun _ _ => False) H ds vs := by
  obtain ⟨O, o⟩ := g.ex
  obtain ⟨p, vs, e, q, h, r⟩ := o.sl i _ hi
  exact ⟨O, p, vs, o, e, q, h, r⟩
/-! ### x.append(e) -/
theorem s_append (i : Nat) {x : Str} {xp apos cpos : Pos} (h : PE X e (tF ⟨cv.cv, XO⟩ f)) (hN : X.N[i]? = some x := by rfl) (hv : Vis X.env.scope x := by first | exact Or.inl rfl | exact Or.inr (Or.inl rfl) | exact Or.inr (Or.inr rfl))
    (hd : (x == ("__debug__" : Str)) = false := by decide) (hcd : (x == ("__classdict__" : Str)) = false := by decide)
    (hbase : attributeBase (.Name x xp) "append" X.env (eval (.Name x xp) X.env) = eval (.Name x xp) X.env := by rfl)
    (hfew : ((backTo cpos (starEach [e] X.env)).all (fun x => !x.1) && (backToKw cpos (keywordEach [] X.env)).all (fun x => x.1.isSome)
      && decide ([e].length + ([] : List Keyword).length + (if ([] : List Keyword).isEmpty then 0 else 1) < 30)) = true := by rfl)
    (hline : (apos.endLine == cpos.line) = true := by rfl) (hs1 : starEach [e] X.env = (false, eval e X.env) :: starEach [] X.env := by rfl) (hplain : (backTo cpos (starEach [] X.env)).any (·.1) = false := by rfl)
    (hs : swapsWith (.Call (.Attribute (.Name x xp) "append" apos) [e] [] cpos) none pos.line X.env = pure false := by rfl) :
    PS X (.Expr (.Call (.Attribute (.Name x xp) "append" apos) [e] [] cpos) pos) (tS cv XO (sAppend i f)) := by
  intro pins s σ H D I ⟨H₀, F, ρ, r, g, e', k⟩
  refine ps_expr (pe_bm PySem.F.plainAttrs_list PySem.F.slot_list_append PySem.F.type_list_append mt_append (pe_var (i := i) hN hv hd hcd) (pa_cons h pa_nil hs1) hbase hfew hline hs1 hplain) hs pins s σ H D I ?_
  unfold sAppend at e'
  split at e'
  · rename_i xs hρ
    obtain ⟨O, p, vs, o, hσ, hO, hp, rs⟩ := g.own hρ
    refine ⟨.ref p, hσ, .inl ⟨rfl, vs, SqL.of hp⟩, ?_⟩
    refine tS_bind g e' k fun l d v H1 s1 r1 e1 => ?_
    split at e1
    · rename_i hc
      cases e1
      rw [Bool.and_eq_true] at hc
      have hlen : xs.length < big := of_decide_eq_true hc.2
      refine ⟨p, vs, v, rfl, rfl, s1 _ _ hp, by rw [rs.length]; exact Nat.lt_of_lt_of_le hlen big_le, ?_⟩
      have g1 := g.same s1
      have o1 : SO cv H₀ F ρ σ H1 O := ⟨o.fr, fun a i e => let ⟨vs, q⟩ := o.ls a i e; ⟨vs, s1 _ _ q⟩, fun i t e => (o.sl i t e).same s1⟩
      exact k _ _ (g1.change o1 hρ hσ hO (s1 _ _ hp) ((rs.same s1).append (Reps.one (r1.nl hc.1))))
    · cases e1
  · cases e'
/-! ### y = x.pop() -/
theorem s_pop (j i : Nat) {x y : Str} {xp yp apos cpos : Pos} (hnd : X.N.Nodup) (hN : X.N[i]? = some x := by rfl) (hv : Vis X.env.scope x := by first | exact Or.inl rfl | exact Or.inr (Or.inl rfl) | exact Or.inr (Or.inr rfl))
    (hd : (x == ("__debug__" : Str)) = false := by decide) (hcd : (x == ("__classdict__" : Str)) = false := by decide) (hj : X.N[j]? = some y := by rfl) (hy : Loc X.env.scope y := by first | exact Or.inl rfl | exact Or.inr rfl)
    (hbase : attributeBase (.Name x xp) "pop" X.env (eval (.Name x xp) X.env) = eval (.Name x xp) X.env := by rfl) (hline : (apos.endLine == cpos.line) = true := by rfl)
    (hs : swapsWith (.Call (.Attribute (.Name x xp) "pop" apos) [] [] cpos) (some (.Name y yp)) pos.line X.env = pure false := by rfl) (hf : X.fn y = true ∨ X.env.scope.names.lookup y = some .local := by first | exact .inl rfl | exact .inr rfl | assumption)
    (hjn : Nat.blt j cv.n = true := by rfl) : PS X (.Assign [.Name y yp] (.Call (.Attribute (.Name x xp) "pop" apos) [] [] cpos) pos) (tS cv XO (sPop j i)) := by
  intro pins s σ H D I ⟨H₀, F, ρ, r, g, e', k⟩
  refine ps_set hnd hj hy (pe_bm0 PySem.F.plainAttrs_list PySem.F.slot_list_pop PySem.F.type_list_pop mt_pop (pe_var (i := i) hN hv hd hcd) hbase hline) hs hf pins s σ H D I ?_
  unfold sPop at e'
  split at e'
  · rename_i xs hρ
    obtain ⟨O, p, vs, o, hσ, hO, hp, rs⟩ := g.own hρ
    split at e'
    · rename_i d hd'
      split at e'
      · cases e'
      · rename_i hij
        cases e'
        obtain ⟨v, hv', rv⟩ := rs.get hd'
        refine ⟨.ref p, hσ, .inl ⟨rfl, vs, SqL.of hp⟩, p, vs, v, rfl, rfl, hp, by rw [rs.length]; exact hv', ?_⟩
        have dl : Reps (fun _ _ => False) H xs.dropLast vs.dropLast := by
          rw [List.dropLast_eq_take, List.dropLast_eq_take, rs.length]
          exact rs.take _
        have g2 := g.change o hρ hσ hO hp dl
        refine k _ _ (g2.putLoc hjn ?_)
        exact Rep.mono (fun a ws e => by
          rw [upd_ne]
          · exact e
          · intro z; subst z; rw [hp] at e; cases e) (fun a ws rl => by rcases rl with ⟨q, _⟩ | ⟨q, _⟩ <;> exact q.elim) d v rv
    · cases e'
  · cases e'
/-! ### x.extend(e) -/
def rExtendD : V → List V → Hp → VK → Prop := fun x vs H Q => ∃ l b xs zs, x = .ref l ∧ vs = [.ref b] ∧ H l = some (.lst xs) ∧ (Rd H b (.lst zs) ∨ H b = some (.tup zs)) ∧ xs.length + zs.length ≤ sizeLine ∧ Q .non (upd H l (.lst (xs ++ zs)))
theorem extend_tupleW (l : Addr) (items : Array Value) (n : Nat) (b : Addr) (items2 : Array Value) (n2 : Nat) (dd : Option Addr) (sl : Array (Option Value)) (hs0 : ¬(!items.isEmpty && Builtin.List.listTooLong (items.size + items2.size)) = true) (hs1 : items.size ≤ sizeLine) (hs2 : items.size + items2.size ≤ sizeLine + 1) :
    Meets (Builtin.«list.extend» ⟨[.ref l, .ref b], []⟩) (fun _ R s => s.heap.get? l = some { cls := .type "list", dict := none, data := .seq items n, slots := #[] } ∧ s.heap.get? b = some { cls := .type "tuple", dict := dd, data := .seq items2 n2, slots := sl } ∧ R (.ok (.ret Value.none)) { s with heap := s.heap.update l (Obj.mapSeq fun x => x ++ items2), toks := s.toks }) :=
  .of_wp fun prog w A R s h => by
    obtain ⟨hp, g, d, tk, os⟩ := s; obtain ⟨hl, hb, h⟩ := h; have f1 := AutoSeq1.idx_int; have f2 := AutoSeq1.sub_tuple_tuple; have f3 := AutoSeq1.sub_list_list; have f4 := AutoSeq1.sub_tuple_list; have f5 := AutoSeq1.sub_list_tuple;
    have hz' : (items ++ items2).size ≤ sizeLine + 1 := by rw [Array.size_append]; exact hs2
    wp_walk using (wpAny_updateSeq hl rfl (hz := hs1) (_hz' := hz')), AutoSeq1.wpAny_loadPart' hl, AutoSeq1.wpAny_loadPart' hb; exact ⟨_, rfl, h⟩
theorem mt_extendD : MtM X "list.extend" rExtendD := by
  intro pins s σ H x vs v us Q I rx rv h
  obtain ⟨l, b, xs, zs, rfl, rfl, hH, hB, hz, q⟩ := h
  cases rx
  obtain ⟨u, rfl, ru⟩ := rv.one
  cases ru
  obtain ⟨z, its, n, r, hl, e⟩ := I.lstM hH
  rcases hB with hB | hB
  · obtain ⟨z2, its2, n2, r2, hl2, e2⟩ := lstR I hB
    have hsz : its.toArray.size + its2.toArray.size ≤ sizeLine := by rw [List.size_toArray, List.size_toArray]; omega
    have hlong : ¬ (!its.toArray.isEmpty && Builtin.List.listTooLong (its.toArray.size + its2.toArray.size)) = true := by
      rw [notLongL hsz, Bool.and_false]
      exact Bool.false_ne_true
    refine call_meets F.slot_list_extend ⟨_, e, rfl⟩ F.entry_list_extend (F.args_list_extend_2 _ _)
      (AutoSeq1.list_extend_list_list_0 l its.toArray n b its2.toArray n2 hlong (by rw [List.size_toArray]; omega) (by omega)) ⟨e, e2, ?_⟩
    refine ⟨.non, _, I.lset (its' := its ++ its2) hH e (by simp) (r.append r2) ?_, rfl, q⟩
    rw [List.length_append]
    omega
  · obtain ⟨its2, r2, ⟨⟨cls2, dd2, data2, sl2⟩, e2, hc2, n2, hd2⟩, z2⟩ := I.tuple (SqT.of hB)
    simp only at hc2 hd2
    subst hc2 hd2
    have hl2 := r2.length
    have hsz : its.toArray.size + its2.toArray.size ≤ sizeLine := by rw [List.size_toArray, List.size_toArray]; omega
    have hlong : ¬ (!its.toArray.isEmpty && Builtin.List.listTooLong (its.toArray.size + its2.toArray.size)) = true := by
      rw [notLongL hsz, Bool.and_false]
      exact Bool.false_ne_true
    refine call_meets F.slot_list_extend ⟨_, e, rfl⟩ F.entry_list_extend (F.args_list_extend_2 _ _)
      (extend_tupleW l its.toArray n b its2.toArray n2 dd2 sl2 hlong (by rw [List.size_toArray]; omega) (by omega)) ⟨e, e2, ?_⟩
    refine ⟨.non, _, I.lset (its' := its ++ its2) hH e (by simp) (r.append r2) ?_, rfl, q⟩
    rw [List.length_append]
    omega
theorem s_extend (i : Nat) {x : Str} {xp apos cpos : Pos} (h : PE X e (tF ⟨cv.cv, XO⟩ f)) (hN : X.N[i]? = some x := by rfl) (hv : Vis X.env.scope x := by first | exact Or.inl rfl | exact Or.inr (Or.inl rfl) | exact Or.inr (Or.inr rfl))
    (hd : (x == ("__debug__" : Str)) = false := by decide) (hcd : (x == ("__classdict__" : Str)) = false := by decide)
    (hbase : attributeBase (.Name x xp) "extend" X.env (eval (.Name x xp) X.env) = eval (.Name x xp) X.env := by rfl)
    (hfew : ((backTo cpos (starEach [e] X.env)).all (fun x => !x.1) && (backToKw cpos (keywordEach [] X.env)).all (fun x => x.1.isSome)
      && decide ([e].length + ([] : List Keyword).length + (if ([] : List Keyword).isEmpty then 0 else 1) < 30)) = true := by rfl)
    (hline : (apos.endLine == cpos.line) = true := by rfl) (hs1 : starEach [e] X.env = (false, eval e X.env) :: starEach [] X.env := by rfl) (hplain : (backTo cpos (starEach [] X.env)).any (·.1) = false := by rfl)
    (hs : swapsWith (.Call (.Attribute (.Name x xp) "extend" apos) [e] [] cpos) none pos.line X.env = pure false := by rfl) :
    PS X (.Expr (.Call (.Attribute (.Name x xp) "extend" apos) [e] [] cpos) pos) (tS cv XO (sExtend i f)) := by
  intro pins s σ H D I ⟨H₀, F, ρ, r, g, e', k⟩
  refine ps_expr (pe_bm PySem.F.plainAttrs_list PySem.F.slot_list_extend PySem.F.type_list_extend mt_extendD (pe_var (i := i) hN hv hd hcd) (pa_cons h pa_nil hs1) hbase hfew hline hs1 hplain) hs pins s σ H D I ?_
  unfold sExtend at e'
  split at e'
  · rename_i xs hρ
    obtain ⟨O, p, vs, o, hσ, hO, hp, rs⟩ := g.own hρ
    refine ⟨.ref p, hσ, .inl ⟨rfl, vs, SqL.of hp⟩, ?_⟩
    refine tS_bind g e' k fun l d v H1 s1 r1 e1 => ?_
    have g1 := g.same s1
    have o1 : SO cv H₀ F ρ σ H1 O := ⟨o.fr, fun a i e => let ⟨vs, q⟩ := o.ls a i e; ⟨vs, s1 _ _ q⟩, fun i t e => (o.sl i t e).same s1⟩
    split at e1
    · rename_i ys
      split at e1
      · rename_i hc
        cases e1
        rw [Bool.and_eq_true] at hc
        have hlen : xs.length + ys.length ≤ big := of_decide_eq_true hc.2
        obtain ⟨q, us, rfl, rl, ru⟩ := r1
        refine ⟨p, q, vs, us, rfl, rfl, s1 _ _ hp, .inl rl.rd, by rw [rs.length, ru.length]; exact le_big hlen, ?_⟩
        exact k _ _ (g1.change o1 hρ hσ hO (s1 _ _ hp) ((rs.same s1).append (ru.nl hc.1)))
      · cases e1
    · rename_i ys
      split at e1
      · rename_i hc
        cases e1
        rw [Bool.and_eq_true] at hc
        have hlen : xs.length + ys.length ≤ big := of_decide_eq_true hc.2
        obtain ⟨q, us, rfl, hq, ru⟩ := r1
        refine ⟨p, q, vs, us, rfl, rfl, s1 _ _ hp, .inr hq, by rw [rs.length, ru.length]; exact le_big hlen, ?_⟩
        exact k _ _ (g1.change o1 hρ hσ hO (s1 _ _ hp) ((rs.same s1).append (ru.nl hc.1)))
      · cases e1
    · cases e1
  · cases e'
end
end KT
set_option Elab.async false
set_option linter.all false
set_option maxRecDepth 100000
namespace KT
open PySem PySem.Spec PyProof.Rows L2
section
variable {X : Cx} {XO : XOF} {cv : Cfg} {e : Expr} {f fa fb fc : FE} {st : Stmt} {rest sa sb body : List Stmt} {a b : FS} {pos : Pos} {tg iter : Expr} {fi : FI} {tf : FT}
variable {H₀ F F' H H1 : Hp} {ρ : Rho} {σ : L2.St}
/-! ### while -/
theorem s_while {c : Expr} (hp : PassesOwn (model X.prog X.w) X.A X.env X.xe) (hc : PT X c (tTest (tF ⟨cv.cv, XO⟩ fc))) (hb : PSs X body (tS cv XO b)) : PS X (.While c body [] pos) (tS cv XO (sWhile fc b)) :=
  PS.imp (ps_while hp hc hb) fun D σ H ⟨H₀, F, ρ, r, g, e, k⟩ => by
    refine ⟨fun m σ' H' => ∃ ρ', SR cv H₀ F ρ' σ' H' ∧ whileGo fc b m ρ' = some r, ⟨wFuel, ρ, g, e⟩, ?_⟩
    rintro m σ1 H1 ⟨ρ1, g1, e1⟩
    cases m with
    | zero => cases e1
    | succ m =>
      unfold whileGo at e1
      refine tS_bind g1 e1 k fun l d v H2 s2 r2 e2 => ?_
      have g2 := g1.same s2
      split at e2
      · refine ⟨true, r2, L2.iteT ?_⟩
        refine ⟨fun σ' H' => ∃ ρ', SR cv H₀ F ρ' σ' H' ∧ whileGo fc b m ρ' = some r, fun σ' H' ⟨ρ', g', e'⟩ => ⟨m, Nat.lt_succ_self m, ρ', g', e'⟩, ?_⟩
        cases hbr : b ρ1 with
        | none => rw [hbr] at e2; cases e2
        | some x =>
          rw [hbr] at e2
          refine ⟨H₀, F, ρ1, x, g2, hbr, ?_⟩
          cases x with
          | next ρ' => exact fun σ' H' g' => ⟨ρ', g', e2⟩
          | cont ρ' => exact fun σ' H' g' => ⟨ρ', g', e2⟩
          | brk ρ' => cases e2; exact k
          | ret d => cases e2; exact k
          | exc c ρ' => cases e2; exact k
      · refine ⟨false, r2, L2.iteF ?_⟩
        cases e2
        exact k σ1 H2 g2
      · cases e2
/-! ### what a loop walks -/
/-- the iterator J yields the data ds wherever Z stays -/
def Yields (Z : Hp) (J : It) (ds : List PyData) : Prop :=
  ∀ H2, Same Z H2 → ∀ i, (∀ d, ds[i]? = some d → J.go i H2 ∧ ∀ x H3, J.yld i H2 x H3 → Same H2 H3 ∧ Rep (fun _ _ => False) H3 d x) ∧ (i = ds.length → J.stop i H2)
/-- it does so wherever the tuples stay, and the lists that were allowed -/
def ItFrom (H₀ Hs : Hp) (l : Nat) (ds : List PyData) (J : It) (H1 : Hp) : Prop :=
  ∀ Z, (∀ a xs, H1 a = some (.tup xs) → Z a = some (.tup xs)) → (∀ a vs, Rl (PL H₀ Hs l) H1 a vs → Rd Z a (.lst vs)) → Yields Z J ds
def tI (XO : XOT) (fi : FI) : TI := fun σ H R => ∃ H₀ Hs ρ r, G XO.cv H₀ Hs ρ σ H ∧ fi ρ = some r ∧ (∀ l ds J H1, r = .ok l ds → Same H H1 → ItFrom H₀ Hs l ds J H1 → R J H1) ∧ ∀ c H', r = .exc c → Same H H' → XO.f c σ H'
theorem PI.imp {wi wi' : TI} (h : PI X tg iter wi) (g : ∀ σ H R, wi' σ H R → wi σ H R) : PI X tg iter wi' := fun pins s σ H R I q => h pins s σ H R I (g σ H R q)
theorem PI.or {wi wi' : TI} (h : PI X tg iter wi) (h' : PI X tg iter wi') : PI X tg iter (fun σ H R => wi σ H R ∨ wi' σ H R) := fun pins s σ H R I q => q.elim (h pins s σ H R I) (h' pins s σ H R I)
theorem yields_list {K : PySem.W.Frag} {Z : Hp} {p : Addr} {vs : List V} {ds : List PyData} (hl : Rd Z p (.lst vs)) (r : Reps (fun _ _ => False) Z ds vs) : Yields Z (Itl K p) ds := fun H2 s i => by
  have hq : SqL K H2 p vs := .inl (Rd.same s hl)
  refine ⟨fun d hd => ?_, fun hi => ⟨vs, hq, by rw [r.length, hi]; exact Nat.le_refl _⟩⟩
  obtain ⟨v, hv, rv⟩ := r.get hd
  refine ⟨⟨vs, v, hq, hv⟩, fun x H3 y => ?_⟩
  obtain ⟨e, y⟩ := y
  subst e
  have := y vs hq
  rw [hv] at this
  cases this
  exact ⟨Same.refl _, rv.same s⟩
theorem yields_tup {K : PySem.W.Frag} {Z : Hp} {p : Addr} {vs : List V} {ds : List PyData} (hl : Z p = some (.tup vs)) (r : Reps (fun _ _ => False) Z ds vs) : Yields Z (Itt K p) ds := fun H2 s i => by
  have hq : SqT K H2 p vs := SqT.of (s _ _ hl)
  refine ⟨fun d hd => ?_, fun hi => ⟨vs, hq, by rw [r.length, hi]; exact Nat.le_refl _⟩⟩
  obtain ⟨v, hv, rv⟩ := r.get hd
  refine ⟨⟨vs, v, hq, hv⟩, fun x H3 y => ?_⟩
  obtain ⟨e, y⟩ := y
  subst e
  have := y vs hq
  rw [hv] at this
  cases this
  exact ⟨Same.refl _, rv.same s⟩
theorem yields_ints {Z : Hp} {n : Nat} : Yields Z (Itr 0 n) (numsTo n) := fun H2 s i => by
  refine ⟨fun d hd => ?_, fun hi => ?_⟩
  · unfold numsTo at hd
    rw [List.getElem?_map] at hd
    cases hr : (List.range n)[i]? with
    | none => rw [hr] at hd; cases hd
    | some k =>
      rw [hr] at hd
      cases hd
      obtain ⟨hlt, hk⟩ := List.getElem?_eq_some_iff.mp hr
      rw [List.length_range] at hlt
      rw [List.getElem_range] at hk
      subst hk
      refine ⟨hlt, fun x H3 y => ?_⟩
      obtain ⟨e, y⟩ := y
      subst e y
      refine ⟨Same.refl _, ?_⟩
      show V.int (0 + (i : Int)) = V.int (i : Int)
      rw [Int.zero_add]
  · show n ≤ i
    rw [hi]
    simp [numsTo]
theorem i_seq {XO : XOT} (h : PE X e (tF XO f)) : PI X tg e (tI XO (iSeq f)) := PI.imp (PI.or (pi_list h) (pi_tup h)) fun σ H R ⟨H₀, Hs, ρ, r, g, e, k, kx⟩ => by
  unfold iSeq at e
  split at e
  · rename_i l ds hf
    split at e
    · rename_i hlf
      cases e
      refine .inl ⟨H₀, Hs, ρ, _, g, hf, ⟨fun l' d' v H1 e' s1 r1 => ?_, fun c H' e => (nomatch e)⟩⟩
      cases e'
      obtain ⟨p, vs, rfl, rl, rs⟩ := r1
      refine ⟨p, rfl, ⟨vs, .inl rl.rd⟩, k l ds (Itl X.K p) H1 rfl s1 fun Z hT hL => yields_list (hL p vs rl) ?_⟩
      exact Reps.free hT ds vs hlf rs
    · cases e
  · rename_i l ds hf
    split at e
    · rename_i hlf
      cases e
      refine .inr ⟨H₀, Hs, ρ, _, g, hf, ⟨fun l' d' v H1 e' s1 r1 => ?_, fun c H' e => (nomatch e)⟩⟩
      cases e'
      obtain ⟨p, vs, rfl, hp, rs⟩ := r1
      refine ⟨p, rfl, ⟨vs, SqT.of hp⟩, k 2 ds (Itt X.K p) H1 rfl s1 fun Z hT hL => yields_tup (hT p vs hp) ?_⟩
      exact Reps.free hT ds vs hlf rs
    · cases e
  · rename_i c hf
    cases e
    exact .inl ⟨H₀, Hs, ρ, _, g, hf, ⟨fun l' d' v H1 e' s1 r1 => (nomatch e'), fun c' H' e' s => kx c' H' (by cases e'; rfl) s⟩⟩
  · cases e
theorem i_r1 {XO : XOT} {p : Pos} (C : BC X) (h : PE X e (tF XO f)) (hg : Gl X "range" := by rfl) (hs : starEach [e] X.env = [(false, eval e X.env)] := by rfl) : PI X tg (.Call (.Name "range" p) [e] [] pos) (tI XO (iR1 f)) :=
  PI.imp (pi_range1 hg C.mrange (pa_cons h pa_nil (by rw [hs]; rfl)) hs) fun σ H R ⟨H₀, Hs, ρ, r, g, e, k, kx⟩ => by
    unfold iR1 at e
    split at e
    · rename_i l n hf
      split at e
      · rename_i hn
        cases e
        refine ⟨H₀, Hs, ρ, _, g, hf, ⟨fun l' d' v H1 e' s1 r1 => ?_, fun c H' e => (nomatch e)⟩⟩
        cases e'
        have hb : big < 2 ^ 62 := by decide
        refine ⟨n, by rw [show v = V.int n from r1], by omega, by omega, ?_⟩
        exact k 2 _ _ H1 rfl s1 fun Z _ _ => yields_ints
      · cases e
    · rename_i c hf
      cases e
      exact ⟨H₀, Hs, ρ, _, g, hf, ⟨fun l' d' v H1 e' s1 r1 => (nomatch e'), fun c' H' e' s => kx c' H' (by cases e'; rfl) s⟩⟩
    · cases e
/-! ### for -/
/-- what stays while others' own lists may change -/
def froz (O : Own) (H : Hp) : Hp := fun a => match O a with
  | some _ => none
  | none => H a
theorem froz_none {O : Own} {H : Hp} {a : Addr} (h : O a = none) : froz O H a = H a := by unfold froz; rw [h]
theorem froz_some {O : Own} {H : Hp} {a : Addr} {i : Nat} (h : O a = some i) : froz O H a = none := by unfold froz; rw [h]
theorem SR.freeze {O : Own} (g : SR cv H₀ F ρ σ H) (o : SO cv H₀ F ρ σ H O) : SR cv H₀ (froz O H) ρ σ H ∧ Same F (froz O H) := by
  have hF : Same F (froz O H) := fun b u e => by
    have : O b = none := by
      cases q : O b with
      | none => rfl
      | some i => rw [o.fr b i q] at e; cases e
    rw [froz_none this]
    exact g.s1 b u e
  refine ⟨⟨g.s0.trans hF, fun b u e => ?_, g.len, g.ln, O, fun a i e => froz_some e, o.ls, o.sl⟩, hF⟩
  cases q : O b with
  | none => rw [froz_none q] at e; exact e
  | some i => rw [froz_some q] at e; cases e
theorem SR.thaw (g : SR cv H₀ F' ρ σ H) (h0 : Same H₀ F) (h : Same F F') : SR cv H₀ F ρ σ H :=
  ⟨h0, h.trans g.s1, g.len, g.ln, let ⟨O, o⟩ := g.ex; ⟨O, fun a i e => h.free (o.fr a i e), o.ls, o.sl⟩⟩
theorem KS.thaw {D : Ends} {r : RS} (h0 : Same H₀ F) (h : Same F F') (k : KS cv XO H₀ F D r) : KS cv XO H₀ F' D r := by
  cases r with
  | next ρ' => exact fun σ' H' g => k σ' H' (g.thaw h0 h)
  | ret d => exact fun v H' s rp => k v H' (h.trans s) rp
  | exc c ρ' => exact fun σ' H' g => k σ' H' (g.thaw h0 h)
  | brk ρ' => exact fun σ' H' g => k σ' H' (g.thaw h0 h)
  | cont ρ' => exact fun σ' H' g => k σ' H' (g.thaw h0 h)
/-- a target, on data without lists -/
def TgD (cv : Cfg) (g : TG) (tf : FT) : Prop := ∀ (H₀ F : Hp) (ρ ρ1 : Rho) (σ : L2.St) (H : Hp) (d : PyData) (x : V) (Q : L2.St → Hp → Prop), SR cv H₀ F ρ σ H → Rep (fun _ _ => False) H d x → tf d ρ = some ρ1 → (∀ σ1, SR cv H₀ F ρ1 σ1 H → Q σ1 H) → g x σ H Q
theorem for_core {J : It} {ds : List PyData} {D : Ends} {r : RS} {g : TG} (s : SR cv H₀ F ρ σ H) (hy : Yields F J ds) (ht : TgD cv g tf) (e : forGo tf b ds ρ = some r) (k : KS cv XO H₀ F D r) :
    ∃ W : Nat → Nat → L2.St → Hp → Prop, (∃ m, W 0 m σ H) ∧ ∀ i m σ H, W i m σ H →
      (J.stop i H ∧ D.nx σ H) ∨ (J.go i H ∧ ∃ N : L2.St → Hp → Prop, (∀ σ' H', N σ' H' → ∃ m', m' < m ∧ W (i + 1) m' σ' H') ∧ ∀ x H', J.yld i H x H' → g x σ H' fun σ2 H2 => tS cv XO b { D with nx := N, ct := N, bk := D.nx } σ2 H2) := by
  refine ⟨fun i m σ H => ∃ ρ', SR cv H₀ F ρ' σ H ∧ forGo tf b (ds.drop i) ρ' = some r ∧ i ≤ ds.length ∧ m = ds.length - i, ⟨ds.length, ρ, s, e, Nat.zero_le _, rfl⟩, ?_⟩
  rintro i m σ1 H1 ⟨ρ1, s1, e1, hi, rfl⟩
  obtain ⟨y1, y2⟩ := hy H1 s1.s1 i
  cases hd : ds[i]? with
  | none =>
    have hl : ds.length ≤ i := List.getElem?_eq_none_iff.mp hd
    have hil : i = ds.length := by omega
    rw [List.drop_eq_nil_of_le hl] at e1
    cases e1
    exact .inl ⟨y2 hil, k σ1 H1 s1⟩
  | some d =>
    obtain ⟨hlt, hde⟩ := List.getElem?_eq_some_iff.mp hd
    rw [List.drop_eq_getElem_cons hlt, hde] at e1
    obtain ⟨hgo, hyl⟩ := y1 d hd
    refine .inr ⟨hgo, fun σ' H' => ∃ ρ', SR cv H₀ F ρ' σ' H' ∧ forGo tf b (ds.drop (i + 1)) ρ' = some r, fun σ' H' ⟨ρ', s', e'⟩ => ⟨ds.length - (i + 1), by omega, ρ', s', e', by omega, rfl⟩, fun x H2 y => ?_⟩
    obtain ⟨sm, rx⟩ := hyl x H2 y
    unfold forGo at e1
    cases htf : tf d ρ1 with
    | none => rw [htf] at e1; cases e1
    | some ρ2 =>
      rw [htf] at e1
      refine ht H₀ F ρ1 ρ2 σ1 H2 d x _ (s1.same sm) rx htf fun σ2 s2 => ?_
      dsimp only at e1
      cases hb : b ρ2 with
      | none => rw [hb] at e1; cases e1
      | some y =>
        rw [hb] at e1
        refine ⟨H₀, F, ρ2, y, s2, hb, ?_⟩
        cases y with
        | next ρ' => exact fun σ' H' g' => ⟨ρ', g', e1⟩
        | cont ρ' => exact fun σ' H' g' => ⟨ρ', g', e1⟩
        | brk ρ' => cases e1; exact k
        | ret d => cases e1; exact k
        | exc c ρ' => cases e1; exact k
/-- a target of the text and what it does on data -/
structure Tg (X : Cx) (cv : Cfg) (tg : Expr) (tf : FT) : Prop where
  ex : ∃ g, PG X tg g ∧ TgD cv g tf
theorem g_name (i : Nat) {x : Str} (hN : X.N.Nodup) (hi : X.N[i]? = some x := by rfl) (hx : Loc X.env.scope x := by first | exact Or.inl rfl | exact Or.inr rfl)
    (hf : X.fn x = true ∨ X.env.scope.names.lookup x = some .local := by first | exact .inl rfl | exact .inr rfl | assumption) (hin : Nat.blt i cv.n = true := by rfl) : Tg X cv (.Name x pos) (tgName i) :=
  ⟨gName i, pg_name hN hi hx hf, fun H₀ F ρ ρ1 σ H d x Q s r e q => by cases e; exact q _ (s.putLoc hin r)⟩
theorem s_for (hp : PassesOwn (model X.prog X.w) X.A X.env X.xe) (hc : X.calm = true) (hi : PI X tg iter (tI ⟨cv.cv, XO⟩ fi)) (ht : Tg X cv tg tf) (hb : PSs X body (tS cv XO b)) (hs : ∀ x, foldedSetIterable iter X.env x = pure x := by intro _; rfl) :
    PS X (.For tg iter body [] pos) (tS cv XO (sFor fi tf b)) := by
  obtain ⟨gt, hg, hd⟩ := ht.ex
  refine PS.imp (ps_for hp hc hi hg hb hs) fun D σ H ⟨H₀, F, ρ, r, g, e, k⟩ => ?_
  unfold sFor at e
  cases hf : fi ρ with
  | none => rw [hf] at e; cases e
  | some x =>
    rw [hf] at e
    refine ⟨H₀, H, ρ, x, g.g, hf, fun l ds J H1 ex s1 it => ?_, fun c H' ex s => ?_⟩
    · subst ex
      dsimp only at e
      split at e
      · rename_i h2
        obtain ⟨O, o⟩ := g.ex
        have o1 : SO cv H₀ F ρ σ H1 O := ⟨o.fr, fun a i e => let ⟨vs, q⟩ := o.ls a i e; ⟨vs, s1 _ _ q⟩, fun i t e => (o.sl i t e).same s1⟩
        obtain ⟨gf, hF⟩ := (g.same s1).freeze o1
        refine for_core gf (it (froz O H1) (fun a xs hx => ?_) fun a vs rl => ?_) hd e (k.thaw g.s0 hF)
        · cases q : O a with
          | none => rw [froz_none q]; exact hx
          | some i => obtain ⟨vs, hv⟩ := o1.ls a i q; rw [hx] at hv; cases vs <;> cases hv
        · have no : ∀ z, PL H₀ H l z a → O a = none := fun z p => by
            have hn : H a = none := by
              match l, h2, p with
              | l + 2, _, p => exact p.2
            cases q : O a with
            | none => rfl
            | some i => obtain ⟨vs, hv⟩ := o.ls a i q; rw [hn] at hv; cases vs <;> cases hv
          rcases rl with ⟨p, hx⟩ | ⟨p, u, hx⟩
          · exact .inl (by rw [froz_none (no _ p)]; exact hx)
          · exact .inr ⟨u, by rw [froz_none (no _ p)]; exact hx⟩
      · cases e
    · subst ex
      cases e
      exact k σ H' (g.same s)
theorem s_forV (i : Nat) {x : Str} {xp : Pos} (hp : PassesOwn (model X.prog X.w) X.A X.env X.xe) (hc : X.calm = true) (ht : Tg X cv tg tf) (hb : PSs X body (tS cv XO b)) (hN : X.N[i]? = some x := by rfl)
    (hv : Vis X.env.scope x := by first | exact Or.inl rfl | exact Or.inr (Or.inl rfl) | exact Or.inr (Or.inr rfl)) (hd : (x == ("__debug__" : Str)) = false := by decide) (hcd : (x == ("__classdict__" : Str)) = false := by decide)
    (hs : ∀ y, foldedSetIterable (.Name x xp) X.env y = pure y := by intro _; rfl) : PS X (.For tg (.Name x xp) body [] pos) (tS cv XO (sForV i tf b)) := by
  obtain ⟨gt, hg, hd'⟩ := ht.ex
  refine PS.imp (ps_for hp hc (PI.or (pi_list (pe_var (i := i) hN hv hd hcd)) (pi_tup (pe_var (i := i) hN hv hd hcd))) hg hb hs) fun D σ H ⟨H₀, F, ρ, r, g, e, k⟩ => ?_
  obtain ⟨O, o⟩ := g.ex
  obtain ⟨gf, hF⟩ := g.freeze o
  have hT : ∀ a xs, H a = some (.tup xs) → froz O H a = some (.tup xs) := fun a xs hx => by
    cases q : O a with
    | none => rw [froz_none q]; exact hx
    | some i => obtain ⟨vs, hv⟩ := o.ls a i q; rw [hx] at hv; cases vs <;> cases hv
  unfold sForV at e
  split at e
  · rename_i xs hρ
    obtain ⟨p, vs, hσ, hO, hp', rs⟩ := o.sl i _ hρ
    -- the list is no more one's own
    have hρl : i < ρ.length := (List.getElem?_eq_some_iff.mp hρ).1
    have o2 : SO cv H₀ F (ρ.set i (some (.loc (.list xs)))) σ H (fun a => if a = p then none else O a) := by
      refine ⟨fun a j q => ?_, fun a j q => ?_, fun j t q => ?_⟩
      · by_cases z : a = p
        · rw [if_pos z] at q; cases q
        · rw [if_neg z] at q; exact o.fr a j q
      · by_cases z : a = p
        · rw [if_pos z] at q; cases q
        · rw [if_neg z] at q; exact o.ls a j q
      · by_cases hij : i = j
        · subst hij
          rw [set_get _ _ _ _ hρl, if_pos rfl] at q
          cases q
          exact ⟨.ref p, hσ, p, vs, rfl, .inl ⟨⟨rfl, if_pos rfl, g.s0.free (o.fr p i hO)⟩, hp'⟩, rs.imp fun _ _ z => z.elim⟩
        · rw [set_get _ _ _ _ hρl, if_neg hij] at q
          have h := o.sl j t q
          have hn : ∀ a, O a = none → (if a = p then none else O a) = none := fun a q => by
            by_cases z : a = p
            · rw [if_pos z]
            · rw [if_neg z]; exact q
          cases t with
          | par d => obtain ⟨w, e1, rr⟩ := h; exact ⟨w, e1, rr.imp fun _ a z => hn a z⟩
          | loc d => obtain ⟨w, e1, rr⟩ := h; exact ⟨w, e1, rr.imp fun _ a z => ⟨z.1, hn a z.2.1, z.2.2⟩⟩
          | own ds =>
            obtain ⟨q1, ws, e1, hq, hqp, rs'⟩ := h
            have hne : q1 ≠ p := fun z => by rw [z, hO] at hq; cases hq; exact hij rfl
            exact ⟨q1, ws, e1, (if_neg hne).trans hq, hqp, rs'⟩
          | own2 ds =>
            obtain ⟨q1, ws, e1, hq, hqp, rs'⟩ := h
            have hne : q1 ≠ p := fun z => by rw [z, hO] at hq; cases hq; exact hij rfl
            exact ⟨q1, ws, e1, (if_neg hne).trans hq, hqp, rs'.imp fun _ a z => ⟨z.1, hn a z.2.1, z.2.2⟩⟩
          | dct ks =>
            obtain ⟨q1, e1, hq, hd⟩ := h
            have hne : q1 ≠ p := fun z => by rw [z, hO] at hq; cases hq; exact hij rfl
            exact ⟨q1, e1, (if_neg hne).trans hq, hd⟩
          | ex c => exact h
    have g2 : SR cv H₀ F (ρ.set i (some (.loc (.list xs)))) σ H := ⟨g.s0, g.s1, by simp [g.len], g.ln, _, o2⟩
    obtain ⟨gf2, hF2⟩ := g2.freeze o2
    refine .inl ⟨.ref p, hσ, p, rfl, ⟨vs, SqL.of hp'⟩, for_core gf2 (yields_list (vs := vs) (.inl ?_) ?_) hd' e (k.thaw g.s0 hF2)⟩
    · rw [froz_none (if_pos rfl)]; exact hp'
    · refine Reps.mono (fun a ys hx => ?_) (fun a ws rl => by rcases rl with ⟨q, _⟩ | ⟨q, _⟩ <;> exact q.elim) xs vs rs
      cases q : (if a = p then none else O a : Option Nat) with
      | none => exact (froz_none q).trans hx
      | some j => obtain ⟨ws, hv⟩ := o2.ls a j q; rw [hx] at hv; cases ws <;> cases hv
  · rename_i xs hρ
    split at e
    · rename_i hlf
      obtain ⟨v, hσ, p, vs, rfl, rl, rs⟩ := o.sl i _ hρ
      refine .inl ⟨.ref p, hσ, p, rfl, ⟨vs, .inl rl.rd⟩, for_core gf (yields_list ?_ (Reps.free hT xs vs hlf rs)) hd' e (k.thaw g.s0 hF)⟩
      rcases rl with ⟨q, hx⟩ | ⟨q, u, hx⟩
      · exact .inl (by rw [froz_none q]; exact hx)
      · exact .inr ⟨u, by rw [froz_none q]; exact hx⟩
    · cases e
  · rename_i xs hρ
    split at e
    · rename_i hlf
      obtain ⟨v, hσ, p, vs, rfl, rl, rs⟩ := o.sl i _ hρ
      refine .inl ⟨.ref p, hσ, p, rfl, ⟨vs, .inl rl.rd⟩, for_core gf (yields_list ?_ (Reps.free hT xs vs hlf rs)) hd' e (k.thaw g.s0 hF)⟩
      rcases rl with ⟨q, hx⟩ | ⟨q, u, hx⟩
      · exact .inl (by rw [froz_none q.2.1]; exact hx)
      · exact .inr ⟨u, by rw [froz_none q.2.1]; exact hx⟩
    · cases e
  · rename_i xs hρ
    split at e
    · rename_i hlf
      obtain ⟨v, hσ, p, vs, rfl, hq, rs⟩ := o.sl i _ hρ
      exact .inr ⟨.ref p, hσ, p, rfl, ⟨vs, SqT.of hq⟩, for_core gf (yields_tup (hT p vs hq) (Reps.free hT xs vs hlf rs)) hd' e (k.thaw g.s0 hF)⟩
    · cases e
  · rename_i xs hρ
    split at e
    · rename_i hlf
      obtain ⟨v, hσ, p, vs, rfl, hq, rs⟩ := o.sl i _ hρ
      exact .inr ⟨.ref p, hσ, p, rfl, ⟨vs, SqT.of hq⟩, for_core gf (yields_tup (hT p vs hq) (Reps.free hT xs vs hlf rs)) hd' e (k.thaw g.s0 hF)⟩
    · cases e
  · cases e
end
end KT
set_option Elab.async false
set_option linter.all false
set_option maxRecDepth 100000
namespace KT
open PySem PySem.Spec PyProof.Rows L2
/-! ### what a def promises: its mirror g -/
def spD (cv : Nat → Value) (n : Nat) (g : FC) : Sp := fun vs H Q E => ∃ ds r, vs.length = n ∧ Reps (fun _ _ => True) H ds vs ∧ g ds = some r ∧
  (∀ d v H', r = .ok d → Same H H' → Rep (fun z a => z = false ∧ H a = none) H' d v → Q v H') ∧ ∀ c H', r = .exc c → Same H H' → E (cv c) none H'
/-- an error of a callee reaches what this body wants of errors -/
def XLink (CX : CXT) (X : Cx) (XO : XOT) : Prop := ∀ pins σ H s e s', Inv X pins σ H s → CX X.stack H s (fun cls _ H' => ∃ c, cls = XO.cv c ∧ XO.f c σ H') e s' → X.xe e s'
/-- a def of the text that keeps its promise -/
structure FnF (CX : CXT) (P : Program) (w : World) (K : PySem.W.Frag) (mg : Str → Option Value) (base : Heap) (cv : Nat → Value) (n : Nat) (x : Str) (ar : Nat) (g : FC) : Prop where
  ex : ∃ f fd ps, FnOk P w K mg base CX n f fd ps (spD cv ar g) ∧ mg x = some (.ref f) ∧ PySem.W.keepIn K (.ref f) = true ∧ Binds K fd ps []
section
variable {X : Cx} {XO : XOT} {CX : CXT} {cv : Nat → Value} {a b c e : Expr} {es : List Expr} {fa fb fc f : FE} {fs : List FE} {pos p : Pos} {n ar : Nat} {x : Str} {g : FC}
theorem x_call (F : FnF CX X.prog X.w X.K X.mg X.base XO.cv n x ar g) (hr : Room n X.A) (L : XLink CX X XO) (ha : PA X (e :: es) (tAs XO fs)) (hn : Nat.beq ar fs.length = true := by rfl) (hg : Gl X x := by rfl)
    (hdb : (x == ("__debug__" : Str)) = false := by decide) (he : starEach (e :: es) X.env = (false, eval e X.env) :: starEach es X.env := by exact star_cons rfl) (hpl : (backTo pos (starEach es X.env)).any (·.1) = false := by exact star_any rfl) :
    PE X (.Call (.Name x p) (e :: es) [] pos) (tF XO (eCall g fs)) := by
  obtain ⟨f, fd, ps, F, hm, hk, hb⟩ := F.ex
  intro pins s σ H Q I ⟨H₀, Hs, ρ, r, gg, ee, kk⟩
  refine wpAny_Call_Name_kw (ld_glob I hg hm ?_ hdb)
  have hA : tAs XO fs σ H (fun vs H1 => spD XO.cv ar g vs H1 Q (fun cls _ H' => ∃ c, cls = XO.cv c ∧ XO.f c σ H')) := by
    refine tAs_bind gg ee kk fun l ds vs H1 s1 g1 r1 hl e1 k1 => ?_
    have hlen : vs.length = ar := by rw [r1.length, hl, Nat.eq_of_beq_eq_true hn]
    cases hg : g ds with
    | none => rw [hg] at e1; cases e1
    | some rc =>
      rw [hg] at e1
      refine ⟨ds, rc, hlen, r1.imp fun _ _ _ => trivial, hg, fun d v H' er s rp => ?_, fun c H' er s => ?_⟩
      · subst er
        exact k1.give (l := 2) e1 s (rp.imp fun z a q => ⟨q.1, g1.s1.free q.2⟩)
      · subst er
        exact ⟨c, rfl, k1.2 c H' (by cases e1; rfl) s⟩
  refine PySem.W.callWith_K (h₀ := X.base) I.ok.mod.kin hk (thn (ha pos pins s σ H _ I hA) fun us s1 ⟨vs, H1, I1, r, q⟩ => ⟨I1.kIn, ?_⟩) he hpl
  have hl : (us ++ []).length = ps.length := by rw [List.append_nil, ← r.length]; exact F.len _ _ _ _ q
  have hB := hb s1 us I1.kIn hl
  rw [List.append_nil] at hB
  refine wpAny_call (codeAny_mono (F.run X.A X.stack s1 H1 ⟨us, []⟩ us vs Q _ hr I1.env0 hB r q) fun r s' hq => ?_)
  cases r with
  | error e => exact L pins σ H1 s1 e s' I1 hq
  | ok fl =>
    cases fl with
    | ret u => exact I1.after hq
    | next => exact False.elim hq
    | brk => exact False.elim hq
    | cont => exact False.elim hq
/-! ### Python's own calls -/
/-- a call of one argument by data -/
def CallD (r : List V → Hp → VK → Prop) (op : PyData → Option PyData) : Prop :=
  ∀ (H₀ Hs H : Hp) (l : Nat) (x d : PyData) (v : V) (Q : VK), Same H₀ Hs → Same Hs H → op x = some d → Rep (PL H₀ Hs l) H x v → (∀ z H', Same H H' → Rep (PL H₀ Hs 2) H' d z → Q z H') → r [v] H Q
theorem call_read {r : List V → Hp → VK → Prop} {op : PyData → Option PyData} (ho : CallD r op) {σ : L2.St} {H : Hp} {Q : VK} (h : tF XO (e1 op true fa) σ H Q) : tCB r (tCons (tF XO fa) tNil) σ H Q := by
  obtain ⟨H₀, Hs, ρ, rr, g, e, kk⟩ := h
  refine tF_bind g e kk fun l x v H1 s1 g1 r1 e1 k1 => ?_
  cases hd : op x with
  | none => rw [hd] at e1; cases e1
  | some d =>
    rw [hd] at e1
    exact ho H₀ Hs H1 l x d v Q g1.s0 g1.s1 hd r1 fun z H' s rp => k1.give e1 s rp
theorem x_callB {id : String} {r : List V → Hp → VK → Prop} {op : PyData → Option PyData} (hc : CallR X (.builtin id) r) (ho : CallD r op) (hm : X.mg x = none) (hv : bootBuiltins x = some (.builtin id)) (ha : PE X a (tF XO fa)) (hg : Gl X x) (hn : x ≠ "__name__") (hdb : (x == ("__debug__" : Str)) = false)
    (he : starEach [a] X.env = (false, eval a X.env) :: starEach [] X.env) (hpl : (backTo pos (starEach [] X.env)).any (·.1) = false) : PE X (.Call (.Name x p) [a] [] pos) (tF XO (e1 op true fa)) :=
  PE.imp (pe_callB hc hg hm hv (pa_cons ha pa_nil he) hn hdb he hpl) fun _ _ _ h => call_read ho h
theorem x_callT {T : String} {r : List V → Hp → VK → Prop} {op : PyData → Option PyData} (hc : CallR X (.type T) r) (ho : CallD r op) (hm : X.mg x = none) (hv : bootBuiltins x = some (.type T)) (ha : PE X a (tF XO fa)) (hg : Gl X x) (hn : x ≠ "__name__") (hdb : (x == ("__debug__" : Str)) = false)
    (he : starEach [a] X.env = (false, eval a X.env) :: starEach [] X.env) (hpl : (backTo pos (starEach [] X.env)).any (·.1) = false) : PE X (.Call (.Name x p) [a] [] pos) (tF XO (e1 op true fa)) :=
  PE.imp (pe_callTy hc hg hm hv (pa_cons ha pa_nil he) hn hdb he hpl) fun _ _ _ h => call_read ho h
theorem x_len (C : BC X) (ha : PE X a (tF XO fa)) (hg : Gl X "len" := by rfl) (he : starEach [a] X.env = (false, eval a X.env) :: starEach [] X.env := by exact star_cons rfl) (hpl : (backTo pos (starEach [] X.env)).any (·.1) = false := by exact star_any rfl) : PE X (.Call (.Name "len" p) [a] [] pos) (tF XO (eLen fa)) :=
  x_callB (call_len_seq.or call_len_str) (fun H₀ Hs H l x d v Q s0 s1 e rx q => by
    unfold dLen at e
    split at e
    · cases e
      obtain ⟨p, vs, rfl, hp, rs⟩ := rx
      exact .inl ⟨p, vs, rfl, .inr (SqT.of hp), q _ H (Same.refl H) (by rw [rs.length]; rfl)⟩
    · cases e
      obtain ⟨p, vs, rfl, hp, rs⟩ := rx
      exact .inl ⟨p, vs, rfl, .inl (.inl hp.rd), q _ H (Same.refl H) (by rw [rs.length]; rfl)⟩
    · split at e
      · rename_i z hz
        cases e
        exact .inr ⟨z, by rw [show v = V.str z from rx], le_big hz, q _ H (Same.refl H) rfl⟩
      · cases e
    · cases e) C.mlen PySem.boot_len ha hg (by decide) (by decide) he hpl
theorem x_inti (C : BC X) (ha : PE X a (tF XO fa)) (hg : Gl X "int" := by rfl) (he : starEach [a] X.env = (false, eval a X.env) :: starEach [] X.env := by exact star_cons rfl) (hpl : (backTo pos (starEach [] X.env)).any (·.1) = false := by exact star_any rfl) : PE X (.Call (.Name "int" p) [a] [] pos) (tF XO (eInt fa)) :=
  x_callT call_int1 (fun H₀ Hs H l x d v Q s0 s1 e rx q => by
    unfold dInt at e
    split at e
    · rename_i i
      cases e
      exact .inl ⟨i, by rw [show v = V.int i from rx], q _ H (Same.refl H) rfl⟩
    · rename_i k
      cases e
      exact .inr ⟨k, by rw [show v = V.bl k from rx], q _ H (Same.refl H) rfl⟩
    · cases e) C.mint PyProof.Rows.boot_int ha hg (by decide) (by decide) he hpl
theorem x_tuple (C : BC X) (ha : PE X a (tF XO fa)) (hg : Gl X "tuple" := by rfl) (he : starEach [a] X.env = (false, eval a X.env) :: starEach [] X.env := by exact star_cons rfl) (hpl : (backTo pos (starEach [] X.env)).any (·.1) = false := by exact star_any rfl) : PE X (.Call (.Name "tuple" p) [a] [] pos) (tF XO (eTuple fa)) :=
  x_callT call_tuple_of (fun H₀ Hs H l x d v Q s0 s1 e rx q => by
    unfold dTuple at e
    split at e
    · split at e
      · rename_i hlf
        cases e
        obtain ⟨p, vs, rfl, hp, rs⟩ := rx
        exact ⟨p, vs, rfl, .inl ⟨.inl hp.rd, fun l hl => q _ _ (same_new hl _) ⟨l, vs, rfl, upd_same, (rs.nl hlf).same (same_new hl _)⟩⟩⟩
      · cases e
    · split at e
      · rename_i hlf
        cases e
        obtain ⟨p, vs, rfl, hp, rs⟩ := rx
        exact ⟨p, vs, rfl, .inr ⟨SqT.of hp, q _ H (Same.refl H) ⟨p, vs, rfl, hp, rs.nl hlf⟩⟩⟩
      · cases e
    · cases e) C.mtuple PyProof.Rows.boot_tuple ha hg (by decide) (by decide) he hpl
end
end KT
set_option Elab.async false
set_option linter.all false
set_option maxRecDepth 100000
namespace KT
open PySem PySem.Spec PyProof.Rows L2
section
variable {X : Cx} {XO : XOT} {a b c e : Expr} {fa fb fc f : FE} {pos p p2 : Pos}
end
end KT
set_option Elab.async false
set_option linter.all false
set_option maxRecDepth 100000
namespace KT
open PySem PySem.Spec PyProof.Rows L2
/-! ### errors that pass -/
/-- from heap h to h': an error at ea has been noted in the frames fs; all others stay -/
structure Flown (fs : List Addr) (ea : Addr) (oe : Obj) (h h' : Heap) : Prop where
  keep : ∀ b o, h.get? b = some o → b ≠ ea → b ∉ fs → h'.get? b = some o
  frm : ∀ b o, h.get? b = some o → b ∈ fs → ∃ sl, h'.get? b = some { o with slots := sl }
  ex : ∃ oe' vs T oT ts, h'.get? ea = some oe' ∧ oe'.cls = oe.cls ∧ oe'.dict = oe.dict ∧ oe'.data = .fields vs ∧ vs[1]? = some (.ref T) ∧ h.get? T = none ∧ T ≠ ea ∧ h'.get? T = some oT ∧ oT.data = .fields ts ∧ ts[3]? = some .none
/-- an error's first entry: none yet, or one that stands still -/
def HeadOk (h : Heap) (ea : Addr) (vs : Array Value) : Prop :=
  vs[1]? = some .none ∨ ∃ T oT ts, vs[1]? = some (.ref T) ∧ T ≠ ea ∧ h.get? T = some oT ∧ oT.data = .fields ts ∧ ts[3]? = some .none
theorem dict_mapFields (o : Obj) (f : Array Value → Array Value) : (o.mapFields f).dict = o.dict := by
  obtain ⟨_, _, dt, _⟩ := o
  cases dt <;> rfl
section
variable {M : Model} {A : Around} {E : Value → Shared → Prop} {s : Shared} {base : Heap} {env : Env} {outer : List Env} {L ea : Addr} {oe : Obj} {vs : Array Value} {Q : Unit → Shared → Prop}
theorem fly_entry {hd0 : Value} {nx : Bool} (hfr : A.frames = some (env :: outer)) (ff : s.heap.FunFrames base (env :: outer)) (hf : env.frame = some L) (he : s.heap.get? ea = some oe) (hd : oe.data = .fields vs) (hsz : 1 < vs.size)
    (k : ∀ h', Flown (frs (env :: outer)) ea oe s.heap h' → Q () { s with heap := h' }) :
    wpAny M A (do let fo ← frameOf env; let pl ← entryPlaceOf L nx; let t ← EntryCells.newEntry hd0 fo .none (rawInt L) .none pl; setField (.ref ea) 1 t) (fun _ s' => wpAny M A (setFlight (.ref ea) none) Q E s') E s := by
  have nfr : ea ∉ frs (env :: outer) := fun hm => by
    obtain ⟨_, o, ho, no⟩ := ff.mem hm
    rw [he] at ho
    cases ho
    exact no vs hd
  refine wpAny_bind (wpAny_frameOf_fun hfr ff hf fun g hg => ?_)
  refine wpAny_bind (wpAny_entryPlaceOf fun pl hpl => ?_)
  unfold EntryCells.newEntry newFields
  refine wpAny_bind (wpAny_newObj_type ?_ (hpl.sizeOk5 _ _ _ _ _))
  generalize hob : ({ cls := .type "traceback", dict := none, data := .fields ([hd0, .ref L, .none, rawInt L, .none] ++ (if pl.isEmpty then List.replicate 6 Value.none else pl)).toArray } : Obj) = ob
  have obd : ∃ ts, ob.data = .fields ts ∧ 3 < ts.size := ⟨_, by rw [← hob], by simp only [List.size_toArray, List.length_append, List.length_cons, List.length_nil] <;> omega⟩
  obtain ⟨ts, obd, ob3⟩ := obd
  have eg : g.get? ea = some oe := (hg.2.1 ea nfr).trans he
  have ltE : ea < g.objs.size := Heap.lt_size eg
  have e2 : (g.push ob).get? ea = some oe := Heap.get?_push_of_some ob eg
  refine wpAny_setField e2 hd hsz ?_
  have d3 := Obj.data_mapFields hd (·.setIfInBounds 1 (Value.ref g.objs.size))
  have e3 := Heap.get?_update_self (Obj.mapFields (·.setIfInBounds 1 (Value.ref g.objs.size))) e2 (Obj.isFreed_of_fields d3)
  have neT : g.objs.size ≠ ea := Nat.ne_of_gt ltE
  have obf : ob.isFreed = false := Obj.isFreed_of_fields obd
  have t3 : ((g.push ob).update ea (Obj.mapFields (·.setIfInBounds 1 (Value.ref g.objs.size)))).get? g.objs.size = some ob := by
    rw [Heap.get?_update_other _ _ neT.symm]
    exact Heap.get?_push_size g obf
  unfold setFlight
  refine wpAny_bind (wpAny_field e3 d3 (x := .ref g.objs.size) (by simp [hsz]) ?_)
  rw [if_pos (by simp)]
  refine wpAny_setField t3 obd ob3 (k _ ?_)
  have stay : ∀ b o, b ≠ ea → g.get? b = some o → (((g.push ob).update ea (Obj.mapFields (·.setIfInBounds 1 (Value.ref g.objs.size)))).update g.objs.size (Obj.mapFields (·.setIfInBounds 3 ((none : Option Addr).elim Value.none fun f => rawInt f)))).get? b = some o := fun b o hb q => by
    rw [Heap.get?_update_other _ _ (Nat.ne_of_gt (Heap.lt_size q)), Heap.get?_update_other _ _ hb.symm]
    exact Heap.get?_push_of_some _ q
  refine ⟨fun b o q hb hn => stay b o hb ((hg.2.1 b hn).trans q), fun b o q hb => ?_, ?_⟩
  · obtain ⟨sl, q'⟩ := hg.2.2 b o q
    exact ⟨sl, stay b _ (fun z => nfr (z ▸ hb)) q'⟩
  · refine ⟨_, _, g.objs.size, _, _, (Heap.get?_update_other _ _ neT).trans e3, Obj.cls_mapFields _ _, dict_mapFields _ _, d3, by simp [hsz], ?_, neT, Heap.get?_update_self _ t3 (Obj.isFreed_of_fields (Obj.data_mapFields obd _)), Obj.data_mapFields obd _, by simp [ob3]⟩
    cases q : s.heap.get? g.objs.size with
    | none => rfl
    | some o =>
      have := Heap.lt_size q
      rw [hg.1] at this
      exact absurd this (Nat.lt_irrefl _)
theorem same_flight {h : Heap} {T : Addr} {oT : Obj} {ts : Array Value} (hT : h.get? T = some oT) (hd : oT.data = .fields ts) (h3 : ts[3]? = some .none) : (h.update T (Obj.mapFields (·.setIfInBounds 3 Value.none))).get? T = some oT := by
  have hz : ts.setIfInBounds 3 Value.none = ts := by
    obtain ⟨hlt, hv⟩ := Array.getElem?_eq_some_iff.mp h3
    apply Array.ext
    · simp
    · intro i h1 h2
      by_cases q : 3 = i
      · subst q; simp [hv]
      · rw [Array.getElem_setIfInBounds, if_neg q]
  rw [Heap.get?_update_self _ hT (Obj.isFreed_of_fields (Obj.data_mapFields hd _))]
  obtain ⟨c, d, dt, sl⟩ := oT
  cases hd
  show some ({ cls := c, dict := d, data := .fields (ts.setIfInBounds 3 Value.none), slots := sl } : Obj) = _
  rw [hz]
/-- an error is noted in this frame, and stands still -/
theorem fly (hfr : A.frames = some (env :: outer)) (ff : s.heap.FunFrames base (env :: outer)) (hf : env.frame = some L) (he : s.heap.get? ea = some oe) (hd : oe.data = .fields vs) (hh : HeadOk s.heap ea vs)
    (k : ∀ h', Flown (frs (env :: outer)) ea oe s.heap h' → Q () { s with heap := h' }) :
    wpAny M A (noteFrame (.ref ea) env) (fun _ s' => wpAny M A (setFlight (.ref ea) none) Q E s') E s := by
  unfold noteFrame
  simp only [hf]
  rcases hh with h1 | ⟨T, oT, ts, h1, neT, hT, hdT, h3⟩
  · refine wpAny_bind (wpAny_field he hd h1 ?_)
    rw [if_neg (by decide)]
    exact fly_entry hfr ff hf he hd (Array.getElem?_eq_some_iff.mp h1).1 k
  · refine wpAny_bind (wpAny_field he hd h1 ?_)
    rw [if_pos (by simp)]
    refine wpAny_bind (wpAny_field hT hdT h3 ?_)
    rw [if_neg (by simp [rawInt])]
    refine wpAny_bind (wpAny_setField hT hdT (Array.getElem?_eq_some_iff.mp h3).1 ?_)
    have same : ∀ b o, s.heap.get? b = some o → (s.heap.update T (Obj.mapFields (·.setIfInBounds 3 Value.none))).get? b = some o := fun b o q => by
      by_cases z : b = T
      · subst z
        rw [hT] at q
        cases q
        exact same_flight hT hdT h3
      · rw [Heap.get?_update_other _ _ (Ne.symm z)]; exact q
    have back : ∀ b, (s.heap.update T (Obj.mapFields (·.setIfInBounds 3 Value.none))).get? b = none → s.heap.get? b = none := fun b q => by
      cases z : s.heap.get? b with
      | none => rfl
      | some o => rw [same b o z] at q; cases q
    refine fly_entry hfr (ff.of_keeps fun b o q _ => ⟨o, same b o q, rfl⟩) hf (same _ _ he) hd (Array.getElem?_eq_some_iff.mp h1).1 fun h' fl => k h' ⟨fun b o q => fl.keep b o (same b o q), fun b o q => fl.frm b o (same b o q), ?_⟩
    obtain ⟨oe', ws, T', oT', us, x1, x2, x3, x4, x5, x6, x7⟩ := fl.ex
    exact ⟨oe', ws, T', oT', us, x1, x2, x3, x4, x5, back _ x6, x7⟩
end
end KT
set_option Elab.async false
set_option linter.all false
set_option maxRecDepth 100000
namespace KT
open PySem PySem.Spec PyProof.Rows L2
/-- an error at ea that has passed at least one frame: what its objects are, and that they are new and not tracked -/
def XT (h0 : Heap) (H' : Hp) (ea : Addr) (cls : Value) (h : Heap) : Prop := h0.get? ea = none ∧ H' ea = none ∧
  ∃ oe vs T oT ts, h.get? ea = some oe ∧ oe.cls = cls ∧ oe.dict = none ∧ oe.data = .fields vs ∧ vs[1]? = some (.ref T) ∧ h0.get? T = none ∧ H' T = none ∧ T ≠ ea ∧ h.get? T = some oT ∧ oT.data = .fields ts ∧ ts[3]? = some .none
def CX1 (P : Program) (w : World) : CXT := fun outer H s E e s' => ∃ ea cls H', e = .ref ea ∧ s'.os = s.os ∧ AllBare s'.gens ∧ Un (frs outer) [] H H' s.heap s'.heap ∧ HOk P w H' s'.heap ∧ XT s.heap H' ea cls s'.heap ∧ E cls none H'
theorem Un.narrow {fs fs' ex : List Addr} {H H' : Hp} {h h' : Heap} (u : Un fs ex H H' h h') (hx : ∀ b o, h.get? b = some o → b ∉ ex) (hf : ∀ b o, h.get? b = some o → b ∈ fs → b ∈ fs') : Un fs' [] H H' h h' where
  keep := fun b o q n hb _ => u.keep b o q n (fun z => hb (hf b o q z)) (hx b o q)
  slot := fun b o q n _ _ => u.any q n (hx b o q)
  free := fun b o q n _ => u.free b o q n (hx b o q)
  there := fun b o q _ => u.there b o q (hx b o q)
  tups := u.tups
  frzs := u.frzs
  tbls := u.tbls
/-- frames stand as long as their objects keep their data -/
theorem funFrames_of {h h' base base' : Heap} : ∀ {l : List Env}, h.FunFrames base l → (∀ b ∈ frs l, ∀ o, h.get? b = some o → ∃ sl, h'.get? b = some { o with slots := sl }) → (∀ b ∈ frs l, base'.get? b = none) → h'.FunFrames base' l
  | [], _, _, _ => trivial
  | env :: rest, ⟨hk, ⟨L, o, hf, hn, ho, hd⟩, hr⟩, ks, kb => by
    have hm : L ∈ frs (env :: rest) := by unfold frs; rw [List.filterMap_cons, hf]; exact List.mem_cons_self ..
    have hs : ∀ b, b ∈ frs rest → b ∈ frs (env :: rest) := fun b hb => by unfold frs at hb ⊢; rw [List.filterMap_cons, hf]; exact List.mem_cons_of_mem _ hb
    obtain ⟨sl, e⟩ := ks L hm o ho
    exact ⟨hk, ⟨L, _, hf, kb L hm, e, hd⟩, funFrames_of hr (fun b hb => ks b (hs b hb)) fun b hb => kb b (hs b hb)⟩
theorem hok_of {P : Program} {w : World} {H : Hp} {h h' : Heap} (x : HOk P w H h) (k : ∀ b o u, H b = some u → h.get? b = some o → h'.get? b = some o) : HOk P w H h' := fun a o e =>
  (x a o e).stay (fun b u hb q => by
    rcases hb with rfl | hb
    · exact k b u _ e q
    · exact k b u _ hb q) (fun _ q => q) fun _ _ q => q
theorem obj_ex {P : Program} {w : World} {H : Hp} {h : Heap} {a : Addr} : ∀ {o : HO}, ObjOk P w H h a o → ∃ ob, h.get? a = some ob
  | .lst _, ⟨_, _, _, _, e⟩ => ⟨_, e⟩
  | .tup _, ⟨_, _, _, o, e, _⟩ => ⟨o, e⟩
  | .dK _, ⟨_, _, _, _, o, _, _, e, _⟩ => ⟨o, e⟩
  | .dT _, ⟨_, _, _, _, o, _, _, e, _⟩ => ⟨o, e⟩
  | .dN _, ⟨_, _, _, _, _, o, _, _, e, _⟩ => ⟨o, e⟩
  | .set _ _, ⟨o, _, _, _, e, _⟩ => ⟨o, e⟩
  | .ins _ _ _, ⟨_, _, _, e, _⟩ => ⟨_, e⟩
  | .own _, ⟨o, e⟩ => ⟨o, e⟩
  | .xd _, ⟨_, ⟨_, _, _, e, _⟩, _⟩ => ⟨_, e⟩
  | .rng _ _, ⟨_, _, _, e⟩ => ⟨_, e⟩
  | .frz _ _, ⟨e, _⟩ => ⟨_, e⟩
  | .tbl _, e => ⟨_, e⟩
  | .met _ _, e => ⟨_, e⟩
  | .ext _, ⟨_, ⟨o, e⟩, _⟩ => ⟨o, e⟩
/-- what an error's note leaves of the world -/
theorem flown_un {P : Program} {w : World} {fs : List Addr} {ea : Addr} {oe : Obj} {H₀ H' : Hp} {h₀ h h2 : Heap} (U : Un fs [] H₀ H' h₀ h) (hok : HOk P w H' h) (hfree : ∀ b ∈ fs, H' b = none) (e0 : h₀.get? ea = none) (e1 : H' ea = none)
    (fl : Flown fs ea oe h h2) (hd : oe.dict = none) : Un fs [] H₀ H' h₀ h2 ∧ HOk P w H' h2 ∧ XT h₀ H' ea oe.cls h2 := by
  have U1 : Un fs [ea] H' H' h h2 := by
    refine ⟨fun b o q _ hb hx => fl.keep b o q (fun z => hx (by simp [z])) hb, fun b o q _ hb _ => fl.frm b o q hb, fun _ _ _ z _ => z, fun b o q hx => ?_, fun _ _ z => z, fun _ _ _ z => z, fun _ ps z => ⟨#[], by rw [z]; simp⟩⟩
    by_cases hb : b ∈ fs
    · obtain ⟨sl, z⟩ := fl.frm b o q hb
      exact ⟨_, z⟩
    · exact ⟨o, fl.keep b o q (fun z => hx (by simp [z])) hb⟩
  refine ⟨KT.Un.narrow ((U.mono (fun _ z => z) fun _ z => (nomatch z)).trans U1) (fun b o q hm => ?_) fun _ _ _ z => z, hok_of hok fun b o u hu q => fl.keep b o q (fun z => ?_) fun hm => ?_, e0, e1, ?_⟩
  · have z : b = ea := by simpa using hm
    rw [z, e0] at q
    cases q
  · rw [z, e1] at hu; cases hu
  · rw [hfree b hm] at hu; cases hu
  · obtain ⟨oe', vs, T, oT, ts, x1, x2, x3, x4, x5, x6, x7, x8, x9, x10⟩ := fl.ex
    refine ⟨oe', vs, T, oT, ts, x1, x2, x3.trans hd, x4, x5, ?_, ?_, x7, x8, x9, x10⟩
    · cases q : h₀.get? T with
      | none => rfl
      | some o => obtain ⟨o', z⟩ := U.there T o q (by simp); rw [x6] at z; cases z
    · cases q : H' T with
      | none => rfl
      | some u => obtain ⟨o, z⟩ := obj_ex (hok T u q); rw [x6] at z; cases z
theorem XT.head {h0 : Heap} {H' : Hp} {ea : Addr} {cls : Value} {h : Heap} (x : XT h0 H' ea cls h) : ∃ oe vs, h.get? ea = some oe ∧ oe.cls = cls ∧ oe.dict = none ∧ oe.data = .fields vs ∧ HeadOk h ea vs := by
  obtain ⟨_, _, oe, vs, T, oT, ts, he, hc, hdd, hd, h1, _, _, ne, hT, hdT, h3⟩ := x
  exact ⟨oe, vs, he, hc, hdd, hd, .inr ⟨T, oT, ts, h1, ne, hT, hdT, h3⟩⟩
/-- an error that has come back from a call (or lies new) is noted in this frame -/
theorem fly1 {P : Program} {w : World} {A : Around} {env : Env} {outer : List Env} {L ea : Addr} {cls : Value} {base : Heap} {H₀ H H' : Hp} {s₀ s s' : Shared} {Q : Unit → Shared → Prop} {Ee : Value → Shared → Prop}
    (hfr : A.frames = some (env :: outer)) (hf : env.frame = some L) (ff : s.heap.FunFrames base (env :: outer)) (hfree : ∀ b ∈ frs (env :: outer), H b = none)
    (U : Un (frs (env :: outer)) [] H₀ H s₀.heap s.heap) (un : Un (frs (env :: outer)) [] H H' s.heap s'.heap) (hok : HOk P w H' s'.heap) (xt : XT s.heap H' ea cls s'.heap)
    (k : ∀ h2, Un (frs (env :: outer)) [] H₀ H' s₀.heap h2 → HOk P w H' h2 → XT s₀.heap H' ea cls h2 → Q () { s' with heap := h2 }) :
    wpAny (model P w) A (noteFrame (.ref ea) env) (fun _ s2 => wpAny (model P w) A (setFlight (.ref ea) none) Q Ee s2) Ee s' := by
  obtain ⟨oe, vs, he, hc, hdd, hd, hh⟩ := xt.head
  have slots : ∀ b ∈ frs (env :: outer), ∀ o, s.heap.get? b = some o → ∃ sl, s'.heap.get? b = some { o with slots := sl } := fun b hb o e => un.slot b o e (hfree b hb) hb (by simp)
  have free' : ∀ b ∈ frs (env :: outer), H' b = none := fun b hb => by
    obtain ⟨_, o, e, _⟩ := ff.mem hb
    exact un.free b o e (hfree b hb) (by simp)
  refine fly (base := PySem.W.hideAll s'.heap (frs (env :: outer))) hfr (funFrames_of ff slots fun b hb => PySem.W.hideAll_none _ hb) hf he hd hh fun h2 fl => ?_
  have e0 : s₀.heap.get? ea = none := by
    cases q : s₀.heap.get? ea with
    | none => rfl
    | some o => obtain ⟨o', z⟩ := U.there ea o q (by simp); rw [xt.1] at z; cases z
  obtain ⟨y1, y2, y3⟩ := flown_un (U.trans un) hok free' e0 xt.2.1 fl hdd
  exact k h2 y1 y2 (hc ▸ y3)
theorem outer_un {env : Env} {outer : List Env} {L : Addr} {H H' : Hp} {h h' : Heap} (hf : env.frame = some L) (hL : h.objs.size ≤ L) (U : Un (frs (env :: outer)) [] H H' h h') : Un (frs outer) [] H H' h h' :=
  KT.Un.narrow U (fun _ _ _ z => nomatch z) fun b o q hm => by
    unfold frs at hm
    rw [List.filterMap_cons, hf] at hm
    rcases List.mem_cons.mp hm with z | z
    · subst z; exact absurd (Heap.lt_size q) (Nat.not_lt.mpr hL)
    · exact z
theorem inner_un {env : Env} {outer : List Env} {L : Addr} {H H' : Hp} {h h' : Heap} (hf : env.frame = some L) (U : Un (frs outer) [] H H' h h') : Un (frs (env :: outer)) [] H H' h h' :=
  U.mono (fun b hb => by unfold frs; rw [List.filterMap_cons, hf]; exact List.mem_cons_of_mem _ hb) fun _ z => z
theorem wpAny_leave {P : Program} {w : World} {A : Around} {env : Env} {e : Value} {Q : Unit → Shared → Prop} {Ee : Value → Shared → Prop} {s : Shared} (h : wpAny (model P w) A (noteFrame e env) (fun _ s2 => wpAny (model P w) A (setFlight e none) Q Ee s2) Ee s) :
    wpAny (model P w) A (leaving env e) Q Ee s := by
  unfold leaving
  exact wpAny_bind h
/-- a new error -/
theorem xt_new {P : Program} {w : World} {H : Hp} {h h' : Heap} {ea : Addr} {cls : Value} {args : List Value} (hok : HOk P w H h) (hx : Heap.MadeExcOf h h' ea cls args) : h.get? ea = none ∧ H ea = none ∧ ∃ oe vs, h'.get? ea = some oe ∧ oe.cls = cls ∧ oe.dict = none ∧ oe.data = .fields vs ∧ HeadOk h' ea vs := by
  obtain ⟨t, he, _, _⟩ := hx.there
  refine ⟨hx.new, ?_, _, _, he, rfl, rfl, rfl, .inl rfl⟩
  cases q : H ea with
  | none => rfl
  | some u => obtain ⟨o, e⟩ := obj_ex (hok ea u q); rw [hx.new] at e; cases e
section
variable {CX : CXT} {P : Program} {w : World} {K : PySem.W.Frag} {mg : Str → Option Value} {base : Heap} {N : List Str} {qual : Str} {scope : Scope} {f : Addr} {cd : Value} {A : Around} {outer : List Env} {s : Shared} {H : Hp} {E : XK} {cv : Nat → Value}
theorem own_frame {X : Cx} {pins : List (Addr × Obj)} {σ : L2.St} {H1 : Hp} {s1 : Shared} (I : Inv X pins σ H1 s1) (hs : X.stack = X.env :: X.outer) : X.env.frame = some X.env.locals := by
  rcases I.ok.stk with z | z
  · rw [hs] at z
    have := congrArg List.length z
    simp at this
  · exact z.2
/-- a callee's error passes through a def -/
theorem xlink_cx : XLink (CX1 P w) (cxOf (CX1 P w) P w K mg base N qual scope f cd A outer s H E) ⟨cv, fun c _ H' => E (cv c) none H'⟩ := by
  intro pins σ H1 s1 e s' I hcx
  obtain ⟨ea, cls, H', rfl, os, bare, un, hok, xt, c, rfl, hE⟩ := hcx
  have hf := own_frame I rfl
  exact wpAny_leave (fly1 (H₀ := H) (s₀ := s) I.ok.frames hf I.stack I.stkFree (inner_un hf I.base) un hok xt fun h2 y1 y2 y3 => ⟨ea, cv c, H', rfl, os.trans I.os, bare, outer_un hf I.ok.above y1, y2, y3, hE⟩)
/-- a new error is raised here -/
def RLink (cv : Nat → Value) (X : Cx) (XO : XOF) : Prop := ∀ pins σ H s ea c h' args, Inv X pins σ H s → Heap.MadeExcOf s.heap h' ea (cv c) args → XO c σ H → X.xe (.ref ea) { s with heap := h' }
theorem rlink_cx : RLink cv (cxOf (CX1 P w) P w K mg base N qual scope f cd A outer s H E) (fun c _ H' => E (cv c) none H') := by
  intro pins σ H1 s1 ea c h' args I hx hE
  have hf := own_frame I rfl
  obtain ⟨x1, x2, oe, vs, he, hc, hdd, hd, hh⟩ := xt_new I.hok hx
  have U : Un _ [] H H1 s.heap s1.heap := inner_un hf I.base
  have e0 : s.heap.get? ea = none := by
    cases q : s.heap.get? ea with
    | none => rfl
    | some o => obtain ⟨o', z⟩ := U.there ea o q (by simp); rw [x1] at z; cases z
  refine wpAny_leave (fly (base := PySem.W.hideAll h' (frs _)) I.ok.frames (funFrames_of I.stack (fun b hb o e => ⟨o.slots, hx.keeps b o e⟩) fun b hb => PySem.W.hideAll_none _ hb) hf he hd hh fun h2 fl => ?_)
  obtain ⟨y1, y2, y3⟩ := flown_un (U.trans (Un.kept hx.keeps)) (I.hok.kept hx.keeps) I.stkFree e0 x2 fl hdd
  exact ⟨ea, cv c, H1, rfl, I.os, I.bare, outer_un hf I.ok.above y1, y2, hc ▸ y3, hE⟩
end
/-! ### raise C(text) -/
def vbm : List Value := [.type "ValueError", .type "Exception", .type "BaseException", .type "object"]
/-- an own error class of the text, number c -/
structure ExcF (K : PySem.W.Frag) (mg : Str → Option Value) (cv : Nat → Value) (x : Str) (c : Nat) : Prop where
  ex : ∃ C, cv c = .ref C ∧ mg x = some (.ref C) ∧ PySem.W.excIn K C vbm "ValueError.__new__" = true
theorem exc_of_in {K : PySem.W.Frag} {h : Heap} {C : Addr} {bmB : List Value} {newId : String} (X : K.In h) (q : PySem.W.excIn K C bmB newId = true) :
    ∃ bm N nm qn bs hdct sn sub ab col dd k0 k1 k2 k3 k5 mN, h.get? C = some (excClassObj nm qn C N bs bm hdct sn sub ab col dd k0 k1 k2 k3 k5 newId) ∧ h.Ns N mN ∧ mN "__init__" = none ∧ OwnTail h bmB bm := by
  unfold PySem.W.excIn at q
  split at q
  · rename_i dd cd sl ho
    split at q
    · rename_i C' bm k0 k1 k2 k3 n k5 hm hs
      simp only [Bool.and_eq_true, beq_iff_eq, Bool.not_eq_true'] at q
      obtain ⟨⟨⟨⟨⟨rfl, rfl⟩, hdel⟩, ht⟩, hok⟩, hni⟩ := q
      obtain ⟨nm, bs, mro, ns, qn, hd, sn, sub, ab, col, del⟩ := cd
      dsimp only at hm hdel hok hni
      subst hm hdel
      have hsl : sl = #[k0, k1, k2, k3, some (.builtin n), k5] := by
        obtain ⟨l⟩ := sl
        simp only at hs
        rw [hs]
      subst hsl
      exact ⟨bm, ns, nm, qn, bs, hd, sn, sub, ab, col, dd, k0, k1, k2, k3, k5, _, X _ _ ho, .of_isNs (PySem.W.isNs_of_in X hok), PySem.W.nsMap_none_of_in X hok hni, PySem.W.tail_of_in X ht⟩
    · cases q
  · cases q
section
variable {X : Cx} {XO : XOF} {cv : Cfg} {pos np cpos p1 : Pos} {x m : Str} {c : Nat} {j : Nat}
theorem s_raise (R : ExcF X.K X.mg cv.cv x c) (hh : X.A.handled = none) (L : RLink cv.cv X XO) (hg : Gl X x := by rfl) (hdb : (x == ("__debug__" : Str)) = false := by decide)
    (he : starEach [.Constant (.str m) j p1] X.env = (false, eval (.Constant (.str m) j p1) X.env) :: starEach [] X.env := by rfl) (hpl : (backTo cpos (starEach [] X.env)).any (·.1) = false := by exact star_any rfl) :
    PS X (.Raise (some (.Call (.Name x np) [.Constant (.str m) j p1] [] cpos)) none pos) (tS cv XO (sRaise c)) := by
  obtain ⟨C, hcv, hm, hq⟩ := R.ex
  intro pins s σ H D I ⟨H₀, F, ρ, r, g, e, k⟩
  cases e
  obtain ⟨tl, N, nm, q, bs, hdct, sn, sub, ab, col, dd, k0, k1, k2, k3, k5, mN, hC, hN, hni, T⟩ := exc_of_in I.ok.mod.kin hq
  have FB := PySem.F.excBase_ValueError
  refine wpAny_Raise_call_subT (C := C) (nm := nm) (q := q) (N := N) (bs := bs) (bm := tl) (hdct := hdct) (sn := sn) (sub := sub) (ab := ab) (col := col) (dd := dd) (k0 := k0) (k1 := k1) (k2 := k2) (k3 := k3) (k5 := k5)
    FB (mN := mN) (T.hasType FB.hasBase) hh (by rw [he]; show (false || (backTo cpos (starEach [] X.env)).any (·.1)) = false; rw [hpl]; rfl) hni (ld_glob I hg hm ⟨rfl, ?_⟩ hdb)
  have hA := pa_cons (X := X) (pe_str (x := m) (j := j) (pos := p1)) pa_nil he cpos pins s σ H (fun vs H1 => vs = [.str m] ∧ H1 = H) I ⟨rfl, rfl⟩
  rw [he] at hA ⊢
  refine Calls.evalArgs_plain (wpAny_mono hA (fun vs s₂ h₂ => ?_) fun _ _ y => y)
  obtain ⟨ws, H1, I2, rv, rfl, rfl⟩ := h₂
  refine ⟨rfl, ?_, I2.bk _ _ hC, hN.keeps I2.bk, T.keeps I2.bk, fun h' ea hx => ?_⟩
  · show vs.length ≤ sizeLine
    rw [← rv.length]
    exact Nat.le_trans (by simp) (show 1 ≤ sizeLine by decide)
  · refine L pins σ H1 s₂ ea c h' vs I2 ?_ (k σ H1 g)
    rw [hcv]
    exact hx
end
/-! ### a def keeps its promise: its mirror is what its body is worth -/
structure MF (mg : Str → Option Value) : Prop where
  mlen : mg "len" = none
  mint : mg "int" = none
  mbool : mg "bool" = none
  mstr : mg "str" = none
  mtuple : mg "tuple" = none
  mlist : mg "list" = none
  misi : mg "isinstance" = none
  mrange : mg "range" = none
  menum : mg "enumerate" = none
  mzip : mg "zip" = none
  mrev : mg "reversed" = none
/-- what a body's proof is given -/
structure Body (P : Program) (w : World) (cv : Nat → Value) (k : Nat) (X : Cx) (XO : XOF) : Prop where
  C : BC X
  hr : Room k X.A
  L : XLink (CX1 P w) X ⟨cv, XO⟩
  R : RLink cv X XO
  pw : PassesOwn (model X.prog X.w) X.A X.env X.xe
  hc : X.calm = true
  nd : X.N.Nodup
theorem start_sr {cv : Nat → Value} {N ps : List Str} {vs : List V} {ds : List PyData} {H : Hp} (hp : N.take ps.length = ps) (hl : vs.length = ps.length) (r : Reps (fun _ _ => True) H ds vs) :
    SR ⟨cv, N.length⟩ H H (ds.map (fun d => some (.par d)) ++ List.replicate (N.length - ds.length) none) (L2.start N vs) H := by
  have hle : ps.length ≤ N.length := by
    have := congrArg List.length hp
    rw [List.length_take] at this
    omega
  have hd := r.length
  refine ⟨Same.refl H, Same.refl H, ?_, ?_, fun _ => none, fun a i e => (nomatch e), fun a i e => (nomatch e), fun i t e => ?_⟩
  · simp; omega
  · unfold L2.start; simp; omega
  · by_cases hi : i < ds.length
    · rw [List.getElem?_append_left (by simpa using hi)] at e
      rw [List.getElem?_map] at e
      cases hx : ds[i]? with
      | none => rw [hx] at e; cases e
      | some d =>
        rw [hx] at e
        cases e
        obtain ⟨v, hv, rv⟩ := r.get hx
        refine ⟨v, ?_, rv.imp fun _ _ _ => rfl⟩
        unfold L2.start
        rw [List.getElem?_append_left (by simp; omega), List.getElem?_map, hv]
        rfl
    · rw [List.getElem?_append_right (by simp; omega)] at e
      rw [List.getElem?_replicate] at e
      split at e <;> cases e
theorem fun_okD {P : Program} {w : World} {K : PySem.W.Frag} {mg : Str → Option Value} {base : Heap} {cv : Nat → Value} {x qual : Str} {st : Stmt} {f : Addr} {fd : FuncData} {N ps : List Str} {k : Nat} {b : FS} (M : MF mg) (F : Fun K x qual st f fd) (S : FnScope N ps (defScope st))
    (hbody : ∀ (cdv : Value) (A : Around) (outer : List Env) (s : Shared) (H : Hp) (E : XK), Body P w cv k (cxOf (CX1 P w) P w K mg base N qual (defScope st) f cdv A outer s H E) (fun c _ H' => E (cv c) none H') →
      PSs (cxOf (CX1 P w) P w K mg base N qual (defScope st) f cdv A outer s H E) (defBody st) (tS ⟨cv, N.length⟩ (fun c _ H' => E (cv c) none H') b)) :
    FnOk P w K mg base (CX1 P w) (k + 1) f fd ps (spD cv ps.length (runB N.length b)) := by
  obtain ⟨oc, od, kV, doc, pm, an, cdv, ct, osl, rfl, lk, hcd⟩ := F.ex
  refine fn_of lk hcd S (fun vs H Q E h => ?_) fun A outer s H vs Q E hr hsp => ?_
  · obtain ⟨ds, r, hl, _⟩ := h
    exact hl
  obtain ⟨ds, r, hl, rp, hg, hok, hex⟩ := hsp
  refine ⟨tS ⟨cv, N.length⟩ (fun c _ H' => E (cv c) none H') b, hbody cdv A outer s H E ⟨⟨hr.units, M.mlen, M.mint, M.mbool, M.mstr, M.mtuple, M.mlist, M.misi, M.mrange, M.menum, M.mzip, M.mrev⟩, hr, xlink_cx, rlink_cx, PassesOwn.leaving, rfl, S.nd⟩, ?_⟩
  have g := start_sr (cv := cv) S.pre hl rp
  unfold runB at hg
  cases hb : b (ds.map (fun d => some (.par d)) ++ List.replicate (N.length - ds.length) none) with
  | none => rw [hb] at hg; cases hg
  | some y =>
    rw [hb] at hg
    refine ⟨H, H, _, y, g, hb, ?_⟩
    cases y with
    | ret d => cases hg; exact fun v H' s rp => hok d v H' rfl s rp
    | next ρ' => cases hg; exact fun σ' H' g' => hok .none .non H' rfl g'.s1 rfl
    | exc c ρ' => cases hg; exact fun σ' H' g' => hex c H' rfl g'.s1
    | brk ρ' => cases hg
    | cont ρ' => cases hg
end KT
set_option Elab.async false
set_option linter.all false
set_option maxRecDepth 100000
namespace KT
open PySem PySem.Spec PyProof.Rows L2
/-! ### isinstance of a caught error -/
/-- what the fragment says of an own error class at D -/
structure XCls (K : PySem.W.Frag) (D : Addr) : Prop where
  ga : PySem.W.findIn K (.ref D) "__getattribute__" = some (some (.builtin "BaseException.__getattribute__"))
  gh : PySem.W.findIn K (.ref D) "__getattr__" = some none
  be : PySem.W.mroIn K D (.type "BaseException") = some true
  hd : PySem.W.hasDictIn K D = true
  fc : PySem.W.findIn K (.ref D) "__class__" = some (some (.builtin "object.__class__"))
  sg : PySem.W.specialIn K (.builtin "object.__class__") "__get__" = some (some (.builtin "getset_descriptor.__get__"))
  tk : PySem.W.takesIn K (.builtin "object.__class__") = some true
  mo : PySem.W.mroIn K D (.type "object") = some true
open PySem.W in
open PySem.W in
open PySem.W in
/-- the error classes are there -/
structure XAll (K : PySem.W.Frag) (cv : Nat → Value) : Prop where
  ex : ∀ c, ∃ D, cv c = .ref D ∧ XCls K D
/-- a class's name in an isinstance: the class's value, and which of the own errors are under it -/
structure IsF (K : PySem.W.Frag) (mg : Str → Option Value) (cv : Nat → Value) (x : Str) (sub : Nat → Bool) : Prop where
  all : XAll K cv
  nm : (∃ C, mg x = some (.ref C) ∧ ∀ c, PySem.W.kitOne K (cv c) (.ref C) = some (sub c)) ∨ (∃ T, mg x = none ∧ bootBuiltins x = some (.type T) ∧ ∀ c, PySem.W.kitOne K (cv c) (.type T) = some (sub c))
section
variable {X : Cx} {XO : XOT} {pos p p2 pe : Pos} {x n : Str} {sub : Nat → Bool}
end
end KT
set_option Elab.async false
set_option linter.all false
set_option maxRecDepth 100000
namespace KT
open PySem PySem.Spec PyProof.Rows L2
/-! ### try: .. except C as e: .. -/
/-- the class that a handler names, and which of the own errors it takes -/
structure HanF (K : PySem.W.Frag) (mg : Str → Option Value) (cv : Nat → Value) (x : Str) (sub : Nat → Bool) : Prop where
  nm : ∃ C, mg x = some C ∧ ∀ c, PySem.W.exmOne K (cv c) C = some (sub c)
/-- what a try's body is given -/
structure BodyT (cv : Nat → Value) (k : Nat) (X : Cx) (XO : XOF) : Prop where
  C : BC X
  hr : Room k X.A
  L : XLink (CX1 X.prog X.w) X ⟨cv, XO⟩
  pw : PassesOwn (model X.prog X.w) X.A X.env X.xe
  hc : X.calm = true
  nd : X.N.Nodup
/-- what a handler is given -/
structure BodyH (X : Cx) : Prop where
  C : BC X
  nd : X.N.Nodup
def Cx.tr (X : Cx) (xe : Value → Shared → Prop) (pn : List (Addr × Obj)) : Cx := { X with xe := xe, pn := pn }
def Cx.hn (X : Cx) (e : Value) : Cx := { X with A := X.A.mark (some e), calm := false, xe := fun _ _ => False }
section
variable {X : Cx} {pins : List (Addr × Obj)} {σ : L2.St} {H H' : Hp} {s : Shared} {xe : Value → Shared → Prop}
end
section
variable {X : Cx} {XO : XOF} {cv : Cfg} {body suite : List Stmt} {b0 : Stmt} {a b : FS} {pos hpos np : Pos} {x n : Str} {sub : Nat → Bool} {k : Nat}
end
end KT
set_option Elab.async false
set_option linter.all false
set_option maxRecDepth 100000
namespace KT
open PySem PySem.Spec PyProof.Rows L2
def clOf (cells : List (Str × Addr)) : List (Str × NameKind) → List (Str × Addr) → List (Str × Addr)
  | [], acc => acc
  | (n, k) :: r, acc => clOf cells r (if k == .free then (n, (cells.lookup n).getD 0) :: acc else acc)
theorem clos_go {env : Env} : ∀ (ns : List (Str × NameKind)) (acc : List (Str × Addr)), (∀ z ∈ ns, z.2 = .free → ∃ c, env.cells.lookup z.1 = some c) →
    (forIn ns acc fun (x : Str × NameKind) (cs : List (Str × Addr)) => if x.2 == .free then (do let a ← cellOf env x.1; pure (ForInStep.yield ((x.1, a) :: cs)) : Sem _) else pure (ForInStep.yield cs)) = (pure (clOf env.cells ns acc) : Sem _)
  | [], acc, _ => by simp [clOf]
  | (n, k) :: r, acc, h => by
    rw [List.forIn_cons]
    have ih := fun acc' => clos_go (env := env) r acc' fun z hz => h z (List.mem_cons_of_mem _ hz)
    by_cases hk : k = .free
    · obtain ⟨c, hc⟩ := h (n, k) List.mem_cons_self hk
      have hc : env.cells.lookup n = some c := hc
      have e : cellOf env n = pure c := by unfold cellOf; rw [hc]
      simp only [hk, beq_self_eq_true, if_true, e]
      exact (ih ((n, c) :: acc)).trans (by simp [clOf, hc])
    · have hb : (k == NameKind.free) = false := by simpa using hk
      simp only [hb, Bool.false_eq_true, if_false]
      exact (ih acc).trans (by simp [clOf, hb])
theorem closure_of {scope : Scope} {env : Env} (h : ∀ z ∈ scope.names, z.2 = .free → ∃ c, env.cells.lookup z.1 = some c) : closureFor scope env = pure (clOf env.cells scope.names []) := by
  have := clos_go (env := env) scope.names [] h
  unfold closureFor
  show (forIn scope.names [] _ >>= _) = _
  have e : (forIn scope.names ([] : List (Str × Addr)) fun (x : Str × NameKind) (cs : List (Str × Addr)) => (match x with
      | (name, kind) => if (kind == NameKind.free) = true then (do let a ← cellOf env name; pure (ForInStep.yield ((name, a) :: cs)) : Sem _) else pure (ForInStep.yield cs))) = pure (clOf env.cells scope.names []) := this
  first
    | (rw [e]; rfl)
    | exact congrArg (fun m : Sem (List (Str × Addr)) => m >>= fun cs => pure cs) e
theorem clOf_mem {cells : List (Str × Addr)} : ∀ (ns : List (Str × NameKind)) (acc : List (Str × Addr)), (∀ z ∈ ns, z.2 = .free → ∃ c, cells.lookup z.1 = some c) → ∀ x c, (x, c) ∈ clOf cells ns acc → (x, c) ∈ acc ∨ cells.lookup x = some c
  | [], acc, _, x, c, h => .inl h
  | (n, k) :: r, acc, hf, x, c, h => by
    unfold clOf at h
    rcases clOf_mem r _ (fun z hz => hf z (List.mem_cons_of_mem _ hz)) x c h with z | z
    · by_cases hk : k = .free
      · obtain ⟨c', hc⟩ := hf (n, k) List.mem_cons_self hk
        have hc : cells.lookup n = some c' := hc
        rw [if_pos (by simp [hk]), hc] at z
        rcases List.mem_cons.mp z with e | e
        · cases e; exact .inr hc
        · exact .inl e
      · rw [if_neg (by simp [hk])] at z; exact .inl z
    · exact .inr z
theorem clOf_acc {cells : List (Str × Addr)} : ∀ (ns : List (Str × NameKind)) (acc : List (Str × Addr)) x, (∃ c, acc.lookup x = some c) → ∃ c, (clOf cells ns acc).lookup x = some c
  | [], acc, x, h => h
  | (n, k) :: r, acc, x, h => by
    unfold clOf
    refine clOf_acc r _ x ?_
    by_cases hk : k = .free
    · rw [if_pos (by simp [hk])]
      obtain ⟨c, hc⟩ := h
      by_cases e : (x == n) = true
      · exact ⟨_, by rw [List.lookup_cons, e]⟩
      · have e : (x == n) = false := by simpa using e
        exact ⟨c, by rw [List.lookup_cons, e]; exact hc⟩
    · rw [if_neg (by simp [hk])]; exact h
theorem clOf_has {cells : List (Str × Addr)} : ∀ (ns : List (Str × NameKind)) (acc : List (Str × Addr)) x, (x, NameKind.free) ∈ ns → ∃ c, (clOf cells ns acc).lookup x = some c
  | [], acc, x, h => by cases h
  | (n, k) :: r, acc, x, h => by
    unfold clOf
    rcases List.mem_cons.mp h with e | e
    · cases e
      refine clOf_acc r _ _ ?_
      rw [if_pos (by simp)]
      exact ⟨_, by rw [List.lookup_cons, beq_self_eq_true]⟩
    · exact clOf_has r _ x e
theorem mem_lookup {β : Type} : ∀ {l : List (Str × β)} {x : Str} {c : β}, l.lookup x = some c → (x, c) ∈ l := fun h => PySem.mem_of_lookup h
/-! ### a list comprehension -/
def cxC (X : Cx) (scope : Scope) (N : List Str) (cl : List (Str × Addr)) (Ca : Addr) (s2 : Shared) (H2 : Hp) (fp : List Addr) : Cx :=
  { X with N := N, s₀ := s2, H₀ := H2, env := compEnvC scope cl Ca X.env, outer := X.stack, ex := fp, fn := fun _ => false, pn := [], xe := fun _ _ => False }
/-- what a comprehension's element is given -/
structure BodyC (cv : Nat → Value) (k : Nat) (X : Cx) : Prop where
  C : BC X
  hr : Room k X.A
  L : XLink (CX1 X.prog X.w) X ⟨cv, fun _ _ _ => False⟩
theorem rel_kind {env : Env} : ∀ {names : List (Str × NameKind)} {x : Str} {k : NameKind}, (names.map fun (n, k) => if (k == NameKind.free && env.scope.kind == .function && env.kindOf n == some .cell) then (n, NameKind.cell) else (n, k)).lookup x = some k →
    (k = .cell ∨ k = .free) → (∀ z ∈ names, z.2 ≠ .cell) → (x, NameKind.free) ∈ names
  | [], _, _, h, _, _ => by simp at h
  | (n, k0) :: r, x, k, h, hk, hc => by
    rw [List.map_cons, List.lookup_cons] at h
    have hc' : ∀ z ∈ r, z.2 ≠ .cell := fun z hz => hc z (List.mem_cons_of_mem _ hz)
    by_cases hb : (k0 == NameKind.free && env.scope.kind == .function && env.kindOf n == some .cell) = true
    · have k0f : k0 = .free := by
        simp only [Bool.and_eq_true, beq_iff_eq] at hb
        exact hb.1.1
      simp only [if_pos hb] at h
      by_cases e : (x == n) = true
      · have : x = n := by simpa using e
        subst this; subst k0f
        exact List.mem_cons_self
      · have e : (x == n) = false := by simpa using e
        rw [e] at h
        exact List.mem_cons_of_mem _ (rel_kind h hk hc')
    · simp only [if_neg hb] at h
      by_cases e : (x == n) = true
      · have : x = n := by simpa using e
        subst this
        rw [e] at h
        cases h
        rcases hk with z | z
        · exact absurd z (hc _ List.mem_cons_self)
        · rw [z]; exact List.mem_cons_self
      · have e : (x == n) = false := by simpa using e
        rw [e] at h
        exact List.mem_cons_of_mem _ (rel_kind h hk hc')
section
variable {X : Cx} {XO : XOT} {y : Str} {yp pos : Pos} {iter elt : Expr} {scope : Scope} {fi : FI} {f : FE} {ids : List Nat} {fr : List Str} {k : Nat}
theorem comp_ok {pins : List (Addr × Obj)} {σ : L2.St} {H2 : Hp} {s2 : Shared} {fp : List Addr} {Ca : Addr} {N : List Str} (I : Inv X pins σ H2 s2) (hf : ∀ b ∈ fp, FpOk X pins H2 b) (hfo : ∀ b ∈ fp, ∃ o, s2.heap.get? b = some o) (hC : s2.heap.objs.size ≤ Ca)
    (hkind : scope.kind = .function) (hcell : ∀ z ∈ scope.names, z.2 ≠ .cell) (hfree : ∀ z ∈ scope.names, z.2 = .free → ∃ c, X.env.cells.lookup z.1 = some c) :
    (cxC X scope N (clOf X.env.cells scope.names []) Ca s2 H2 fp).Ok := by
  have sub : ∀ x c, (clOf X.env.cells scope.names []).lookup x = some c → X.env.cells.lookup x = some c := fun x c e => by
    rcases clOf_mem _ _ hfree x c (mem_lookup e) with z | z
    · cases z
    · exact z
  refine ⟨I.ok.mod, hkind, I.ok.glob, I.ok.blt, hC, fun x z c h1 h2 => I.ok.inj x z c (sub x c h1) (sub z c h2), fun x hx => ?_, fun x c h => (nomatch h), I.ok.hd, I.ok.frames, .inl rfl, fun b hb => ?_, I.bs, Nat.le_trans I.ok.bsz I.sz, fun b o e hb => ?_, fun b hb hs => ?_, I.stack, I.stkFree⟩
  · rcases hx with h | h
    · exact clOf_has _ _ x (rel_kind (show (relabel scope X.env).names.lookup x = some _ from h) (.inl rfl) hcell)
    · exact clOf_has _ _ x (rel_kind (show (relabel scope X.env).names.lookup x = some _ from h) (.inr rfl) hcell)
  · obtain ⟨o, e⟩ := hfo b hb
    exact ⟨Nat.ne_of_lt (Nat.lt_of_lt_of_le (Heap.lt_size e) hC), fun x c h => (hf b hb).2.2.2.2.1 x c (sub x c h)⟩
  · rcases (hf b hb).2.2.2.1 with z | z
    · exact I.ok.noex b o e z
    · exact absurd (Heap.lt_size (I.ok.bs b o e).1) (Nat.not_lt.mpr z)
  · rcases List.mem_cons.mp (I.stkSub b hs) with z | z
    · exact (hf b hb).2.1 z
    · exact (hf b hb).2.2.1 z
theorem bc_c {N : List Str} {cl : List (Str × Addr)} {Ca : Addr} {s2 : Shared} {H2 : Hp} {fp : List Addr} (C : BC X) : BC (cxC X scope N cl Ca s2 H2 fp) := ⟨C.hu, C.mlen, C.mint, C.mbool, C.mstr, C.mtuple, C.mlist, C.misi, C.mrange, C.menum, C.mzip, C.mrev⟩
end
end KT
set_option Elab.async false
set_option linter.all false
set_option maxRecDepth 100000
namespace KT
open PySem PySem.Spec PyProof.Rows L2
theorem rel_free {env : Env} : ∀ {names : List (Str × NameKind)} {x : Str}, names.lookup x = some .free →
    (names.map fun (n, k) => if (k == NameKind.free && env.scope.kind == .function && env.kindOf n == some .cell) then (n, NameKind.cell) else (n, k)).lookup x = some .cell ∨
    (names.map fun (n, k) => if (k == NameKind.free && env.scope.kind == .function && env.kindOf n == some .cell) then (n, NameKind.cell) else (n, k)).lookup x = some .free
  | [], _, h => by simp at h
  | (n, k) :: r, x, h => by
    rw [List.map_cons, List.lookup_cons]
    rw [List.lookup_cons] at h
    by_cases hb : (k == NameKind.free && env.scope.kind == .function && env.kindOf n == some .cell) = true
    · simp only [if_pos hb]
      by_cases e : (x == n) = true
      · rw [e]; exact .inl rfl
      · have e : (x == n) = false := by simpa using e
        rw [e] at h ⊢
        exact rel_free h
    · simp only [if_neg hb]
      by_cases e : (x == n) = true
      · rw [e] at h ⊢; exact .inr h
      · have e : (x == n) = false := by simpa using e
        rw [e] at h ⊢
        exact rel_free h
theorem wpAny_pure_then {α β : Type} {M : Model} {A : Around} {a : α} {t : Sem β} {P : α → Shared → Prop} {Q : β → Shared → Prop} {E E' : Value → Shared → Prop} {s : Shared} (h : wpAny M A (pure a) P E s) (k : P a s → wpAny M A t Q E' s) : wpAny M A t Q E' s :=
  fun Γ p hΓ => k (h Γ p hΓ) Γ p hΓ
/-- the free names' values -/
def frv (σ : L2.St) (ids : List Nat) : L2.St := ids.map fun i => (σ[i]?).join
section
variable {X : Cx} {XO : XOT} {y : Str} {yp pos : Pos} {iter elt : Expr} {scope : Scope} {fi : FI} {f : FE} {ids : List Nat} {fr : List Str} {k : Nat}
theorem comp_inv {pins : List (Addr × Obj)} {σ : L2.St} {H2 : Hp} {s2 : Shared} {fp : List Addr} {Ca : Addr} {h1 : Heap} {t1 : Nat} {m : Str → Option Value} (I : Inv X pins σ H2 s2) (ok : (cxC X scope (y :: fr) (clOf X.env.cells scope.names []) Ca s2 H2 fp).Ok)
    (hfree : ∀ z ∈ scope.names, z.2 = .free → ∃ c, X.env.cells.lookup z.1 = some c) (hC : s2.heap.objs.size ≤ Ca) (old : ∀ b o, s2.heap.get? b = some o → h1.get? b = some o) (hns : h1.Ns Ca m)
    (hids : ids.map (fun i => X.N[i]?) = fr.map some) (hfr : ∀ n ∈ fr, scope.names.lookup n = some .free ∧ X.env.scope.names.lookup n = some .cell) :
    Inv (cxC X scope (y :: fr) (clOf X.env.cells scope.names []) Ca s2 H2 fp) [] (none :: frv σ ids) H2 { s2 with heap := h1, toks := t1 } := by
  have sub : ∀ x c, (clOf X.env.cells scope.names []).lookup x = some c → X.env.cells.lookup x = some c := fun x c e => by
    rcases clOf_mem _ _ hfree x c (mem_lookup e) with z | z
    · cases z
    · exact z
  have hlen : ids.length = fr.length := by simpa using congrArg List.length hids
  refine ⟨ok, rfl, I.bare, Un.kept old, ⟨m, hns, fun i x v e1 e2 e3 => ?_⟩, fun x c e => ?_, I.hok.fresh hC, fun x c e => I.freeC x c (sub x c e), fun p hp => (nomatch hp), I.hok.kept old, by simp [cxC, frv, hlen]⟩
  · cases i with
    | zero => cases e2
    | succ j =>
      have e1 : fr[j]? = some x := e1
      have e2 : (ids.map fun i => (σ[i]?).join)[j]? = some (some v) := e2
      rw [List.getElem?_map] at e2
      cases hj : ids[j]? with
      | none => rw [hj] at e2; cases e2
      | some i' =>
        rw [hj] at e2
        have e2 : (σ[i']?).join = some v := Option.some.inj e2
        have hσ : σ[i']? = some (some v) := by
          cases q : σ[i']? with
          | none => rw [q] at e2; cases e2
          | some w => rw [q] at e2; cases w with
            | none => cases e2
            | some w => cases e2; rfl
        have hN : X.N[i']? = some x := by
          have := congrArg (fun l => l[j]?) hids
          simp only [List.getElem?_map, hj, e1, Option.map_some] at this
          exact Option.some.inj this
        obtain ⟨hf1, hf2⟩ := hfr x (List.mem_of_getElem? e1)
        obtain ⟨m0, _, hl⟩ := I.loc
        obtain ⟨u, ru, lk⟩ := hl i' x v hN hσ (.inr (.inl hf2))
        refine ⟨u, ru, .inr ⟨rel_free (env := X.env) hf1, ?_⟩⟩
        rcases lk with ⟨z, _⟩ | ⟨_, c, hc, hcell⟩
        · rw [show X.env.kindOf x = some NameKind.cell from hf2] at z; cases z
        · obtain ⟨c', hc'⟩ := clOf_has (cells := X.env.cells) scope.names [] x (mem_lookup hf1)
          have := sub x c' hc'
          rw [hc] at this
          cases this
          obtain ⟨o, ho, hd⟩ := hcell
          exact ⟨c, hc', o, old c o ho, hd⟩
  · obtain ⟨v, o, ho, hd⟩ := I.cell x c (sub x c e)
    exact ⟨v, o, old c o ho, hd⟩
theorem g_comp {H₀ Hs H H1 : Hp} {ρ : Rho} {σ : L2.St} {d : PyData} {x : V} (g : G XO.cv H₀ Hs ρ σ H) (s : Same H H1) (rx : Rep (fun _ _ => False) H1 d x) :
    G XO.cv H1 H1 (some (.par d) :: ids.map fun i => demote ρ[i]?) (some x :: frv σ ids) H1 := by
  refine ⟨Same.refl _, Same.refl _, fun i t e => ?_⟩
  cases i with
  | zero => cases e; exact ⟨x, rfl, rx.imp fun _ _ z => z.elim⟩
  | succ j =>
    have e : (ids.map fun i => demote ρ[i]?)[j]? = some (some t) := e
    rw [List.getElem?_map] at e
    show VS XO.cv H1 (frv σ ids)[j]? H1 t
    unfold frv
    rw [List.getElem?_map]
    cases hj : ids[j]? with
    | none => rw [hj] at e; cases e
    | some i' =>
      rw [hj] at e
      have e : demote ρ[i']? = some t := Option.some.inj e
      unfold demote at e
      split at e
      · rename_i d' hρ
        cases e
        obtain ⟨v, h1, h2⟩ := g.vr i' _ hρ
        exact ⟨v, by simp [h1], h2.same s⟩
      · rename_i d' hρ
        cases e
        obtain ⟨v, h1, h2⟩ := g.vr i' _ hρ
        exact ⟨v, by simp [h1], (h2.imp fun _ _ _ => trivial).same s⟩
      · rename_i d' hρ
        cases e
        obtain ⟨v, h1, h2⟩ := g.vr i' _ hρ
        exact ⟨v, by simp [h1], (h2.imp fun _ _ _ => trivial).same s⟩
      · cases e
theorem x_comp (C : BC X) (hr : Room k X.A) (hc : X.calm = true) (hi : PI X (.Name y yp) iter (tI XO fi))
    (he : ∀ cl Ca s2 H2 fp, BodyC XO.cv k (cxC X scope (y :: fr) cl Ca s2 H2 fp) → PE (cxC X scope (y :: fr) cl Ca s2 H2 fp) elt (tF ⟨XO.cv, fun _ _ _ => False⟩ f))
    (nd : (y :: fr).Nodup := by decide +kernel) (hkind : scope.kind = .function := by rfl) (hcell : ∀ z ∈ scope.names, z.2 ≠ .cell := by decide +kernel) (hnames : ∀ z ∈ scope.names, z.2 = .local → scope.names.lookup z.1 = some .local := by decide +kernel)
    (hy : scope.names.lookup y = some .local := by rfl) (hids : ids.map (fun i => X.N[i]?) = fr.map some := by rfl)
    (hfr : ∀ n ∈ fr, scope.names.lookup n = some .free ∧ X.env.scope.names.lookup n = some .cell := by first | (dsimp only [cxOf, envOfC, Cx.tr, Cx.hn, cxC, compEnvC]; decide +kernel) | decide +kernel) (hall : ∀ z ∈ scope.names, z.2 = .free → X.env.scope.names.lookup z.1 = some .cell := by first | (dsimp only [cxOf, envOfC, Cx.tr, Cx.hn, cxC, compEnvC]; decide +kernel) | decide +kernel)
    (hs : ∀ x, foldedSetIterable iter X.env x = pure x := by intro _; rfl) : PE X (.ListComp elt [⟨.Name y yp, iter, [], 0⟩] scope pos) (tF XO (eComp fi ids f)) := by
  intro pins s σ H Q I ⟨H₀, Hs, ρ, r, g, e, kk⟩
  have hfree : ∀ z ∈ scope.names, z.2 = .free → ∃ c, X.env.cells.lookup z.1 = some c := fun z hz hk => I.ok.has z.1 (.inl (hall z hz hk))
  rw [eval_ListComp]
  refine wpAny_comprehension_free (use := none) rfl hs (closure_of hfree) hkind hnames ?_
  unfold eComp at e
  cases hfi : fi ρ with
  | none => rw [hfi] at e; cases e
  | some ri =>
  rw [hfi] at e
  cases ri with
  | exc c =>
    refine thn (hi pins s σ H (fun _ _ => False) I ⟨H₀, Hs, ρ, .exc c, g, hfi, fun l ds J H1 z => (nomatch z), fun c' H' z sm => ?_⟩) fun v s1 h1 => thn h1 fun itv s2 h2 => ?_
    · cases z
      exact kk.2 c H' (Option.some.inj e).symm sm
    · obtain ⟨_, _, _, _, _, _, _, _, _, _, z⟩ := h2
      exact z.elim
  | ok l ds =>
  dsimp only at e
  split at e
  rotate_left
  · cases e
  rename_i hbig
  cases hgo : compGo f (ids.map fun i => demote ρ[i]?) ds with
  | none => rw [hgo] at e; cases e
  | some xs =>
  rw [hgo] at e
  have er : r = .ok 2 (.list xs) := (Option.some.inj e).symm
  subst er
  refine thn (hi pins s σ H (fun J H1 => Same H H1 ∧ ItFrom H₀ Hs l ds J H1) I ⟨H₀, Hs, ρ, .ok l ds, g, hfi, fun l' ds' J H1 z sm it => ?_, fun c H' z => (nomatch z)⟩) fun v s1 h1 => thn h1 fun itv s2 h2 => ?_
  · cases z
    exact ⟨sm, it⟩
  obtain ⟨it, fp, tn, J, H2, rfl, I2, T, st2, f2, sm2, hfrom⟩ := h2
  have hy2 : Yields H2 J ds := hfrom H2 (fun _ _ z => z) fun _ _ z => z.rd
  have fobj : ∀ b ∈ fp, ∃ o, s2.heap.get? b = some o := fun b hb => let ⟨o, e, _⟩ := T.obj 0 _ st2 b hb; ⟨o, e⟩
  refine wpAny_newObj_type (wpAny_newFunctionEnv hcell (by intro z hz; simp at hz) (fun h1 hns hsb => ?_) hkind)
  dsimp only at hns hsb ⊢
  generalize hHp : s2.heap.push { cls := .type "list", dict := none, data := .seq ([] : List Value).toArray } = Hp1 at hns hsb ⊢
  have hCz : Hp1.objs.size = s2.heap.objs.size + 1 := by rw [← hHp, Heap.size_push]
  have hDC : s2.heap.objs.size ≠ Hp1.objs.size := by omega
  have hC : s2.heap.objs.size ≤ Hp1.objs.size := by omega
  have old : ∀ b o, s2.heap.get? b = some o → h1.get? b = some o := fun b o q => by
    have := Heap.lt_size q
    exact hsb.extBut b o (Nat.ne_of_lt (Nat.lt_of_lt_of_le this hC)) (Heap.get?_push_of_some _ (hHp ▸ Heap.get?_push_of_some _ q))
  have hD1 : h1.get? s2.heap.objs.size = some { cls := .type "list", data := .seq ([] : List Value).toArray 0 } := hsb.extBut _ _ hDC (Heap.get?_push_of_some _ (hHp ▸ Heap.get?_push_size _ rfl))
  have ok := comp_ok (N := y :: fr) (scope := scope) I2 f2 fobj hC hkind hcell hfree
  generalize hcl : clOf X.env.cells scope.names [] = cl at ok ⊢
  have sub : ∀ x c, cl.lookup x = some c → X.env.cells.lookup x = some c := fun x c q => by
    subst hcl
    rcases clOf_mem _ _ hfree x c (mem_lookup q) with z | z
    · cases z
    · exact z
  generalize hCa : Hp1.objs.size = Ca at hns hsb hDC hC ok ⊢
  generalize hDa : s2.heap.objs.size = Da at hDC hC hD1 hCz hCa
  have ltD : ∀ b o, s2.heap.get? b = some o → b < Da := fun b o q => by
    have := Heap.lt_size q
    rw [hDa] at this
    exact this
  have hDf : Da ∉ fp := fun hm => by
    obtain ⟨o, q⟩ := fobj Da hm
    exact absurd (ltD _ _ q) (Nat.lt_irrefl Da)
  have hDs : Da ∉ frs X.stack := fun hm => by
    obtain ⟨_, o, q, _⟩ := I2.stack.mem hm
    exact absurd (ltD _ _ q) (Nat.lt_irrefl Da)
  have hDcell : ∀ x c, cl.lookup x = some c → c ≠ Da := fun x c q z => by
    obtain ⟨v, w⟩ := I2.cell x c (sub x c q)
    obtain ⟨o, q', _⟩ := w
    exact absurd (z ▸ ltD _ _ q') (Nat.lt_irrefl Da)
  have fpok : ∀ {H' : Hp} {ps : List (Addr × Obj)}, (∀ b ∈ fp, H' b = none) → (∀ p ∈ ps, p.1 ∉ fp) → ∀ b ∈ fp, FpOk (cxC X scope (y :: fr) cl Ca s2 H2 fp) ps H' b := fun {H' ps} hn hp b hb => by
    obtain ⟨o, q⟩ := fobj b hb
    refine ⟨hn b hb, Nat.ne_of_lt (Nat.lt_of_lt_of_le (ltD _ _ q) hC), fun z => ?_, .inl hb, fun x c z => (f2 b hb).2.2.2.2.1 x c (sub x c z), fun p hp' z => ?_⟩
    · rcases List.mem_cons.mp (I2.stkSub b z) with z | z
      · exact (f2 b hb).2.1 z
      · exact (f2 b hb).2.2.1 z
    · exact hp p hp' (z ▸ hb)
  have hB : BodyC XO.cv k (cxC X scope (y :: fr) cl Ca s2 H2 fp) := ⟨bc_c C, hr, fun ps σ' H' s' ev s'' J' z => by
    obtain ⟨_, _, _, _, _, _, _, _, _, _, _, w⟩ := z
    exact w.elim⟩
  have I0 : Inv (cxC X scope (y :: fr) cl Ca s2 H2 fp) [] (none :: frv σ ids) H2 { s2 with heap := h1, toks := s2.toks + ([] : List (Str × Value)).length } := by
    subst hcl
    exact comp_inv I2 ok hfree (by rw [hDa]; exact hC) old hns hids hfr
  have loop : codeAny (model X.prog X.w) X.A (.compLoop (.ListComp elt [⟨.Name y yp, iter, [], 0⟩] scope pos) 0 (.ref it) (.ref Da) (compEnvC scope cl Ca X.env)) (compPost (model X.prog X.w) X.A X.xe none (EP X pins σ Q) (.ref Da) Ca) { s2 with heap := h1, toks := s2.toks + ([] : List (Str × Value)).length } := by
    refine codeAny_compLoop_list (fun n s' => ∃ i H' w0 its nn dv done rest, Inv (cxC X scope (y :: fr) cl Ca s2 H2 fp) [] (w0 :: frv σ ids) H' s' ∧ tn i s'.heap ∧ (∀ b ∈ fp, H' b = none) ∧ s'.heap.get? Da = some { cls := .type "list", data := .seq its.toArray nn } ∧ H' Da = none ∧ Same H2 H' ∧
      Vals dv its ∧ Reps (fun _ _ => False) H' done dv ∧ compGo f (ids.map fun i => demote ρ[i]?) (ds.drop i) = some rest ∧ xs = done ++ rest ∧ done.length = i ∧ i ≤ ds.length ∧ n = ds.length - i) ?_ ds.length
      ⟨0, H2, none, [], 0, [], [], xs, I0, T.keep _ _ _ st2 fun b hb o q => old b o q, fun b hb => (f2 b hb).1, hD1, I2.hok.fresh (Nat.le_of_eq hDa), Same.refl _, .nil, rfl, hgo, rfl, rfl, Nat.zero_le _, rfl⟩
    rintro n s3 ⟨i, H3, w0, its, nn, dv, done, rest, I3, st3, fr3, hD3, nD3, sm3, rv, rd, hgo3, hxs, hdl, hil, rfl⟩
    have pinD : Inv (cxC X scope (y :: fr) cl Ca s2 H2 fp) [(Da, { cls := .type "list", data := .seq its.toArray nn })] (w0 :: frv σ ids) H3 s3 := I3.pins_of fun p hp => by
      have z : p = (Da, { cls := .type "list", data := .seq its.toArray nn }) := by simpa using hp
      subst z
      exact ⟨hD3, nD3, hDC, hDs, fun v z => (nomatch z)⟩
    have fok3 := fpok (ps := [(Da, ({ cls := .type "list", data := .seq its.toArray nn } : Obj))]) fr3 fun p hp => by
      have z : p = (Da, { cls := .type "list", data := .seq its.toArray nn }) := by simpa using hp
      subst z
      exact hDf
    obtain ⟨y1, y2⟩ := hy2 H3 sm3 i
    cases hd : ds[i]? with
    | none =>
      have hle : ds.length ≤ i := List.getElem?_eq_none_iff.mp hd
      have hieq : i = ds.length := by omega
      refine thn (T.done (cxC X scope (y :: fr) cl Ca s2 H2 fp) rfl rfl rfl hc i _ s3 _ H3 _ pinD fok3 st3 (y2 hieq)) fun rr s4 ⟨hrr, I4⟩ => ?_
      subst hrr
      obtain ⟨mC, hnC, _⟩ := I4.loc
      refine ⟨mC, hnC, fun h5 sb5 => ?_⟩
      obtain ⟨hD4, nD4, _⟩ := I4.pin _ (List.mem_append_right _ (List.mem_singleton.mpr rfl))
      rw [hieq, List.drop_length] at hgo3
      cases hgo3
      rw [List.append_nil] at hxs
      subst hxs
      have far : ∀ b o, s2.heap.get? b = some o → b ≠ Ca ∧ b ≠ Da := fun b o q => ⟨Nat.ne_of_lt (Nat.lt_of_lt_of_le (ltD _ _ q) hC), Nat.ne_of_lt (ltD _ _ q)⟩
      have U5 : Un (frs X.stack) fp H2 (upd H3 Da (.lst dv)) s2.heap h5 := by
        have U4 : Un (frs X.stack) fp H2 H3 s2.heap s4.heap := I4.base
        refine ⟨fun b o q n hb hx => (sb5.2 b (far b o q).1).trans (U4.keep b o q n hb hx), fun b o q n hb hx => ?_, fun b o q n hx => ?_, fun b o q hx => ?_, fun b ys q => ?_, fun b o u q => ?_, fun b ps q => ?_⟩
        · obtain ⟨sl, z⟩ := U4.slot b o q n hb hx
          exact ⟨sl, (sb5.2 b (far b o q).1).trans z⟩
        · rw [upd_ne (far b o q).2]; exact U4.free b o q n hx
        · obtain ⟨o', z⟩ := U4.there b o q hx
          exact ⟨o', (sb5.2 b (far b o q).1).trans z⟩
        · rw [upd_ne (ne_of_none (U4.tups b ys q) nD4)]; exact U4.tups b ys q
        · rw [upd_ne (ne_of_none (U4.frzs b o u q) nD4)]; exact U4.frzs b o u q
        · obtain ⟨more, z⟩ := U4.tbls b ps q
          exact ⟨more, by rw [upd_ne (ne_of_none z nD4)]; exact z⟩
      have hok5 : HOk X.prog X.w (upd H3 Da (.lst dv)) h5 := fun b u q => by
        have fC : H3 Ca = none := I4.free
        by_cases z : b = Da
        · subst z
          rw [upd_same] at q
          cases q
          have hlen := rv.length
          have hl2 := rd.length
          exact ⟨by rw [hl2, hdl, hieq]; exact le_big hbig, its, nn, rv, (sb5.2 _ hDC).trans hD4⟩
        · rw [upd_ne z] at q
          refine (I4.hok b u q).stay (fun c v hcc w => (sb5.2 c fun zz => ?_).trans w) (fun c w => by rw [upd_ne (ne_of_none w nD4)]; exact w) fun c ys w => by rw [upd_ne (ne_of_none w nD4)]; exact w
          subst zz
          rcases hcc with zz | zz
          · rw [← zz, fC] at q; cases q
          · rw [fC] at zz; cases zz
      have I5 : Inv X pins σ (upd H3 Da (.lst dv)) { s4 with heap := h5 } := I2.call' (s' := { s4 with heap := h5 }) I4.os U5 hok5 I4.bare fun b hb => ⟨(f2 b hb).2.2.2.1, (f2 b hb).2.1, (f2 b hb).2.2.2.2.1, (f2 b hb).2.2.2.2.2⟩
      refine ⟨.ref Da, _, I5, rfl, kk.give rfl ((sm2.trans sm3).trans (same_new nD3 _)) ⟨Da, dv, rfl, .inl ⟨⟨rfl, g.s1.free (sm2.free (I2.hok.fresh (Nat.le_of_eq hDa)))⟩, upd_same⟩, (rd.imp fun _ _ z => z.elim).same (same_new nD3 _)⟩⟩
    | some d =>
      obtain ⟨hlt, hde⟩ := List.getElem?_eq_some_iff.mp hd
      rw [List.drop_eq_getElem_cons hlt, hde] at hgo3
      unfold compGo at hgo3
      split at hgo3
      rotate_left
      · cases hgo3
      rename_i l' x' hfx
      split at hgo3
      rotate_left
      · cases hgo3
      rename_i hlf
      cases hgo4 : compGo f (ids.map fun i => demote ρ[i]?) (ds.drop (i + 1)) with
      | none => rw [hgo4] at hgo3; cases hgo3
      | some rest4 =>
      rw [hgo4] at hgo3
      cases hgo3
      obtain ⟨hgo, hyl⟩ := y1 d hd
      refine thn (T.item (cxC X scope (y :: fr) cl Ca s2 H2 fp) rfl rfl rfl hc i _ s3 _ H3 _ pinD fok3 st3 hgo) fun rr s4 ⟨u, hrr, h4⟩ => ?_
      subst hrr
      refine wpAny_pure_then h4 ?_
      rintro ⟨x, H5, I5, rx, hyd, st5, fr5⟩
      obtain ⟨sm5, rp5⟩ := hyl x H5 hyd
      have ho5 := T.obj _ _ st5
      have I5' := I5.pinned (fpok fr5 fun p hp => by
        have z : p = (Da, { cls := .type "list", data := .seq its.toArray nn }) := by simpa using hp
        subst z
        exact hDf) ho5
      refine wpAny_assign_Name (store_ok (X := cxC X scope (y :: fr) cl Ca s2 H2 fp) I5' nd (i := 0) rfl (.inl (lookup_relabel_local hy)) rx (fun s6 I6 => ?_) (.inr (lookup_relabel_local hy)))
      have g6 := g_comp (XO := XO) (ids := ids) g ((sm2.trans sm3).trans sm5) rp5
      refine wpAny_mono (he cl Ca s2 H2 fp hB _ s6 _ H5 (fun v H' => Same H5 H' ∧ Rep (fun _ _ => False) H' x' v) I6 ⟨H5, H5, _, .ok l' x', g6, hfx, ⟨fun l'' d'' v H' z sm rp => ?_, fun c H' z => (nomatch z)⟩⟩) (fun xv s7 h7 => ?_) fun _ _ z => z.elim
      · cases z
        exact ⟨sm, rp.nl hlf⟩
      obtain ⟨v7, H7, I7, r7, sm7, rp7⟩ := h7
      obtain ⟨hD7, nD7, _⟩ := I7.pin (Da, ({ cls := .type "list", data := .seq its.toArray nn } : Obj)) (List.mem_append_right _ (List.mem_append_left _ (List.mem_singleton.mpr rfl)))
      have hitl : its.length = i := by rw [← rv.length, rd.length, hdl]
      refine wpAny_list_append_plain (items := its.toArray) ⟨nn, hD7⟩ (fun h8 hp8 sb8 => ?_) (by rw [List.size_toArray, hitl]; exact Nat.le_trans (Nat.le_of_lt hlt) (le_big hbig))
      obtain ⟨n8, hD8⟩ := hp8
      have I8 : Inv (cxC X scope (y :: fr) cl Ca s2 H2 fp) [] _ H7 { s7 with heap := h8 } := (I7.pins_of (pins' := []) fun p hp => (nomatch hp)).turned (t' := s7.toks) (it := Da) (fun b o hb q => (sb8.2 b hb).trans q) nD7 hDC (.inr (Nat.le_of_eq hDa)) hDcell fun p hp => (nomatch hp)
      refine ⟨ds.length - (i + 1), by omega, i + 1, H7, _, its ++ [xv], n8, dv ++ [v7], done ++ [x'], rest4, I8, T.keep _ _ _ st5 fun b hb o q => ?_, fun b hb => ?_, ?_, nD7, (sm3.trans sm5).trans sm7, rv.append (.cons r7 .nil), ?_, hgo4, by rw [hxs]; simp, by simp [hdl], hlt, rfl⟩
      · have := (I7.pin (b, o) (List.mem_append_right _ (List.mem_append_right _ (mem_pinsAt hb q)))).1
        exact (sb8.2 b fun z => hDf (z ▸ hb)).trans this
      · obtain ⟨o, q, _⟩ := ho5 b hb
        exact (I7.pin (b, o) (List.mem_append_right _ (List.mem_append_right _ (mem_pinsAt hb q)))).2.1
      · rw [hD8]; simp
      · exact Reps.append ((rd.same sm5).same sm7) (Reps.one rp7)
  exact codeAny_compStart_list loop (T.self X.A 0 _ _ _ (T.keep _ _ _ st2 fun b hb o q => old b o q) loop)
end
end KT
set_option Elab.async false
set_option linter.all false
set_option maxRecDepth 100000
namespace KT
open PySem PySem.Spec PyProof.Rows L2
section
variable {X : Cx} {XO : XOT} {cv : Cfg} {e : Expr} {f fa fb fc : FE} {st : Stmt} {rest sa sb body : List Stmt} {a b : FS} {pos p tpos : Pos} {tg iter : Expr} {fi : FI} {tf : FT} {elts : List Expr} {k1 : Nat}
theorem boot_enumerate : bootBuiltins "enumerate" = some (.type "enumerate") := by decide +kernel
theorem enum_get : ∀ (ds : List PyData) (n i : Nat), (enumFrom n ds)[i]? = (ds[i]?).map fun d => .tuple [.int ((n + i : Nat) : Int), d]
  | [], _, _ => by simp [enumFrom]
  | d :: ds, n, 0 => by simp [enumFrom]
  | d :: ds, n, i + 1 => by
    have := enum_get ds (n + 1) i
    simp only [enumFrom, List.getElem?_cons_succ, this]
    congr 1
    funext x
    rw [show n + 1 + i = n + (i + 1) by omega]
theorem enum_len : ∀ (ds : List PyData) (n : Nat), (enumFrom n ds).length = ds.length
  | [], _ => rfl
  | d :: ds, n => by simp [enumFrom, enum_len ds (n + 1)]
end
end KT
set_option Elab.async false
set_option linter.all false
set_option maxRecDepth 100000
namespace KT
open PySem PySem.Spec PyProof.Rows L2
section
variable {X : Cx} {XO : XOF} {cv : Cfg} {e : Expr} {f fa fb fc : FE} {st : Stmt} {rest sa sb body : List Stmt} {a b : FS} {pos p tpos : Pos} {tg iter : Expr} {fi : FI} {tf : FT} {elts : List Expr} {k1 : Nat}
/-! ### for a, b in .. -/
theorem g_pair (i j : Nat) {x y : Str} {xp yp : Pos} (hc : X.calm = true) (hN : X.N.Nodup) (hi : X.N[i]? = some x := by rfl) (hx : Loc X.env.scope x := by first | exact Or.inl rfl | exact Or.inr rfl)
    (hf : X.fn x = true ∨ X.env.scope.names.lookup x = some .local := by first | exact .inl rfl | exact .inr rfl | assumption) (hin : Nat.blt i cv.n = true := by rfl)
    (hj : X.N[j]? = some y := by rfl) (hy : Loc X.env.scope y := by first | exact Or.inl rfl | exact Or.inr rfl)
    (hfy : X.fn y = true ∨ X.env.scope.names.lookup y = some .local := by first | exact .inl rfl | exact .inr rfl | assumption) (hjn : Nat.blt j cv.n = true := by rfl) : Tg X cv (.Tuple [.Name x xp, .Name y yp] k1 pos) (tgPair i j) :=
  ⟨gTup X.K 2 (gCons (gName i) (gCons (gName j) gNil)), pg_tup hc (pgs_cons (pg_name hN hi hx hf) (pgs_cons (pg_name hN hj hy hfy) pgs_nil)), fun H₀ F ρ ρ1 σ H d x Q s r e q => by
    unfold tgPair at e
    split at e
    · cases e
      obtain ⟨p, vs, rfl, hp, rs⟩ := r
      obtain ⟨v1, vr, rfl, r1, rs⟩ := rs
      obtain ⟨v2, vr, rfl, r2, rs⟩ := rs
      have rs : vr = [] := rs
      subst rs
      exact ⟨p, _, rfl, SqT.of hp, rfl, v1, _, rfl, v2, _, rfl, rfl, q _ ((s.putLoc hin r1).putLoc hjn r2)⟩
    · cases e⟩
theorem SO.drop {H₀ F H : Hp} {ρ : Rho} {σ : L2.St} {O : Own} {i : Nat} {xs : List PyData} (g : SR cv H₀ F ρ σ H) (o : SO cv H₀ F ρ σ H O) (hρ : ρ[i]? = some (some (.own xs))) :
    ∃ p vs O', SR cv H₀ F (ρ.set i (some (.loc (.list xs)))) σ H ∧ SO cv H₀ F (ρ.set i (some (.loc (.list xs)))) σ H O' ∧ σ[i]? = some (some (.ref p)) ∧ O' p = none ∧ H p = some (.lst vs) ∧ Reps (fun _ _ => False) H xs vs ∧ ∀ a j, O' a = some j → O a = some j := by
  obtain ⟨p, vs, hσ, hO, hp', rs⟩ := o.sl i _ hρ
  have hρl : i < ρ.length := (List.getElem?_eq_some_iff.mp hρ).1
  have o2 : SO cv H₀ F (ρ.set i (some (.loc (.list xs)))) σ H (fun a => if a = p then none else O a) := by
    refine ⟨fun a j q => ?_, fun a j q => ?_, fun j t q => ?_⟩
    · by_cases z : a = p
      · rw [if_pos z] at q; cases q
      · rw [if_neg z] at q; exact o.fr a j q
    · by_cases z : a = p
      · rw [if_pos z] at q; cases q
      · rw [if_neg z] at q; exact o.ls a j q
    · by_cases hij : i = j
      · subst hij
        rw [set_get _ _ _ _ hρl, if_pos rfl] at q
        cases q
        exact ⟨.ref p, hσ, p, vs, rfl, .inl ⟨⟨rfl, if_pos rfl, g.s0.free (o.fr p i hO)⟩, hp'⟩, rs.imp fun _ _ z => z.elim⟩
      · rw [set_get _ _ _ _ hρl, if_neg hij] at q
        have h := o.sl j t q
        have hn : ∀ a, O a = none → (if a = p then none else O a) = none := fun a q => by
          by_cases z : a = p
          · rw [if_pos z]
          · rw [if_neg z]; exact q
        cases t with
        | par d => obtain ⟨w, e1, rr⟩ := h; exact ⟨w, e1, rr.imp fun _ a z => hn a z⟩
        | loc d => obtain ⟨w, e1, rr⟩ := h; exact ⟨w, e1, rr.imp fun _ a z => ⟨z.1, hn a z.2.1, z.2.2⟩⟩
        | own ds =>
          obtain ⟨q1, ws, e1, hq, hqp, rs'⟩ := h
          have hne : q1 ≠ p := fun z => by rw [z, hO] at hq; cases hq; exact hij rfl
          exact ⟨q1, ws, e1, (if_neg hne).trans hq, hqp, rs'⟩
        | own2 ds =>
          obtain ⟨q1, ws, e1, hq, hqp, rs'⟩ := h
          have hne : q1 ≠ p := fun z => by rw [z, hO] at hq; cases hq; exact hij rfl
          exact ⟨q1, ws, e1, (if_neg hne).trans hq, hqp, rs'.imp fun _ a z => ⟨z.1, hn a z.2.1, z.2.2⟩⟩
        | dct ks =>
          obtain ⟨q1, e1, hq, hd⟩ := h
          have hne : q1 ≠ p := fun z => by rw [z, hO] at hq; cases hq; exact hij rfl
          exact ⟨q1, e1, (if_neg hne).trans hq, hd⟩
        | ex c => exact h
  refine ⟨p, vs, _, ⟨g.s0, g.s1, by simp [g.len], g.ln, _, o2⟩, o2, hσ, if_pos rfl, hp', rs, fun a j q => ?_⟩
  by_cases z : a = p
  · rw [if_pos z] at q; cases q
  · rw [if_neg z] at q; exact q
end
/-! ### list(range(n)) -/
section
variable {X : Cx} {XO : XOT} {e : Expr} {fa : FE} {pos p p2 p3 : Pos}
def rRng : List V → Hp → VK → Prop := fun xs H Q => ∃ n : Int, xs = [.int n] ∧ ∀ l, H l = none → Q (.ref l) (upd H l (.rng 0 n))
theorem call_rng : CallR X (.type "range") rRng := by
  intro pins s σ H xs us Q I r h
  obtain ⟨n, rfl, q⟩ := h
  obtain ⟨u, rfl, t, rfl⟩ := vals1 r
  exact call_range_1 ⟨.ref s.heap.objs.size, _, I.laid (o := .rng 0 n) (t' := s.toks + 1 + 1) (fun b o q => Heap.get?_push_of_some _ q) (Nat.le_refl _) ⟨_, _, _, Heap.get?_push_size _ rfl⟩, rfl, q _ (I.hok.fresh (Nat.le_refl _))⟩
theorem kvals_ints : ∀ (us : List Value) (n a : Nat), us.length = n → (∀ (j : Nat) (v : Value), us[j]? = some v → ∃ t, v = Value.int ((a : Int) + (j : Nat)) t) → Vals ((List.range' a n).map fun (k : Nat) => V.int (k : Int)) us
  | [], n, a, e, _ => by subst e; exact .nil
  | u :: us, n, a, e, h => by
    subst e
    obtain ⟨t, rfl⟩ := h 0 u rfl
    refine .cons ⟨t, by simp⟩ (kvals_ints us _ (a + 1) rfl fun j v hj => ?_)
    obtain ⟨t, rfl⟩ := h (j + 1) v hj
    exact ⟨t, by congr 1; push_cast; omega⟩
def rLRng : List V → Hp → VK → Prop := fun xs H Q => ∃ (l : Addr) (n : Int), xs = [.ref l] ∧ H l = some (.rng 0 n) ∧ n.natAbs ≤ big ∧ ∀ q, H q = none → Q (.ref q) (upd H q (.lst ((List.range n.toNat).map fun (k : Nat) => V.int (k : Int))))
theorem call_listrng (hc : X.calm = true) : CallR X (.type "list") rLRng := by
  intro pins s σ H xs us Q I r h
  obtain ⟨l, n, rfl, hl, hn, q⟩ := h
  obtain ⟨u, rfl, rx⟩ := vals1 r
  cases rx
  obtain ⟨t, u, v, hr⟩ := I.hok l _ hl
  have hb : big < 2 ^ 20 := by decide
  refine call_list_range (I.ok.hd hc) hr (small_one (by omega) (by omega) (by omega) (by omega)) (rangeSize_nat 0 n) (by omega) fun h' tk acc c hk hD hI => ?_
  refine ⟨.ref s.heap.objs.size, _, I.laid (t' := tk) hk (Nat.le_refl _) (show ObjOk X.prog X.w _ h' _ (.lst ((List.range n.toNat).map fun (k : Nat) => V.int (k : Int))) from ⟨by rw [List.length_map, List.length_range]; exact Nat.le_trans (by omega) (le_big (Nat.le_refl _)), acc.toList, c, ?_, by simpa using hD⟩), rfl, q _ (I.hok.fresh (Nat.le_refl _))⟩
  rw [List.range_eq_range']
  refine kvals_ints acc.toList n.toNat 0 (by simpa using hI.1) fun j v hj => ?_
  obtain ⟨t, e⟩ := hI.2 j v (by simpa using hj)
  exact ⟨t, by rw [e]; congr 1; simp⟩
theorem reps_nums {P : PP} {H : Hp} (n : Nat) : Reps P H (numsTo n) ((List.range n).map fun (k : Nat) => V.int (k : Int)) := by
  unfold numsTo
  generalize List.range n = ks
  induction ks with
  | nil => rfl
  | cons k ks ih => exact ⟨_, _, rfl, rfl, ih⟩
theorem x_listRng (C : BC X) (hc : X.calm = true) (ha : PE X e (tF XO fa)) (hg : Gl X "list" := by rfl) (hgr : Gl X "range" := by rfl) (he : starEach [e] X.env = (false, eval e X.env) :: starEach [] X.env := by exact star_cons rfl) (hpl : (backTo p3 (starEach [] X.env)).any (·.1) = false := by exact star_any rfl)
    (he' : starEach [.Call (.Name "range" p2) [e] [] p3] X.env = (false, eval (.Call (.Name "range" p2) [e] [] p3) X.env) :: starEach [] X.env := by exact star_cons rfl) (hpl' : (backTo pos (starEach [] X.env)).any (·.1) = false := by exact star_any rfl) :
    PE X (.Call (.Name "list" p) [.Call (.Name "range" p2) [e] [] p3] [] pos) (tF XO (eListRng fa)) :=
  PE.imp (pe_callTy (call_listrng hc) hg C.mlist PyProof.Rows.boot_list (pa_cons (pe_callTy call_rng hgr C.mrange boot_range (pa_cons ha pa_nil he) (by decide) (by decide) he hpl) pa_nil he') (by decide) (by decide) he' hpl') fun σ H Q h => by
    have := call_read (r := fun xs H Q => rRng xs H fun z H2 => rLRng [z] H2 Q) (op := dListRng) (fun H₀ Hs H l x d v Q s0 s1 e rx q => by
      unfold dListRng at e
      split at e
      · split at e
        · rename_i n hn
          cases e
          refine ⟨n, by rw [show v = V.int n from rx], fun l hl => ⟨l, n, rfl, upd_same, hn, fun m hm => ?_⟩⟩
          have sm := (same_new hl (.rng 0 n)).trans (same_new hm (.lst ((List.range n.toNat).map fun (k : Nat) => V.int (k : Int))))
          have hm' : H m = none := (same_new hl _).free hm
          exact q _ _ sm ⟨m, _, rfl, .inl ⟨⟨rfl, s1.free hm'⟩, upd_same⟩, reps_nums _⟩
        · cases e
      · cases e) h
    exact this
end
end KT
set_option Elab.async false
set_option linter.all false
set_option maxRecDepth 100000
namespace KT
open PySem PySem.Spec PyProof.Rows L2
section
variable {X : Cx} {XO : XOT} {pos pos' p1 p2 apos cpos : Pos} {ks : List (Option Expr)} {vs : List Expr} {kvs : List (Str × PyData)} {a b i e : Expr} {f fx : FE} {j1 j2 : Nat}
end
end KT
set_option Elab.async false
set_option linter.all false
set_option maxRecDepth 100000
namespace KT
open PySem PyProof.Rows
section
open PySem.SeqAt
open PySem.AutoSeq1 (wpAny_loadPart')
open PySem.MeetsSeq PySem.MeetsSeq2 PySem.MeetsSeq3
end
section
variable {prog : Program} {w : World} {A : Around} {E : Value → Shared → Prop} {s : Shared}
end
open PySem.Spec L2
section
variable {X : Cx} {XO : XOT} {a b : Expr} {fa fb : FE} {pos : Pos}
end
end KT
set_option Elab.async false
set_option linter.all false
set_option maxRecDepth 100000
namespace KT
open PySem PySem.Spec PyProof.Rows L2
structure Zp (z TI TO i1 i2 : Addr) : Prop where
  TIz : TI ≠ z
  TOz : TO ≠ z
  i1z : i1 ≠ z
  i2z : i2 ≠ z
  TITO : TI ≠ TO
  TIi1 : TI ≠ i1
  TIi2 : TI ≠ i2
  TOi1 : TO ≠ i1
  TOi2 : TO ≠ i2
  i12 : i1 ≠ i2
def ZSt (a b z TI TO i1 i2 : Addr) (i : Nat) (h : Heap) : Prop := IsZip h z TI TO .none ∧ IsPair h TI (.ref i1) (.ref i2) ∧ (∃ u v, IsPair h TO u v) ∧ h.IsListIter i1 a i ∧ h.IsListIter i2 b i
theorem apart {a b z TI TO i1 i2 : Addr} {i : Nat} {h : Heap} {xs ys : Array Value} (D : Zp z TI TO i1 i2) (st : ZSt a b z TI TO i1 i2 i h) (la : h.IsList a xs) (lb : h.IsList b ys) : ZipApart z TI TO i1 i2 a b := by
  obtain ⟨hz, hTI, ⟨u, v, hTO⟩, ⟨o1, e1, c1, _⟩, ⟨o2, e2, c2, _⟩⟩ := st
  have ne : ∀ (l : Addr) (zs : Array Value), h.IsList l zs → l ≠ z ∧ l ≠ TO ∧ l ≠ i1 ∧ l ≠ i2 := fun l zs ⟨o, e, c, _⟩ => by
    refine ⟨fun q => ?_, fun q => ?_, fun q => ?_, fun q => ?_⟩
    · subst q; rw [hz] at e; cases e; simp at c
    · subst q; rw [hTO] at e; cases e; simp at c
    · subst q; rw [e1] at e; cases e; rw [c1] at c; simp at c
    · subst q; rw [e2] at e; cases e; rw [c2] at c; simp at c
  obtain ⟨a1, a2, a3, a4⟩ := ne a xs la
  obtain ⟨b1, b2, b3, b4⟩ := ne b ys lb
  exact ⟨D.TIz, D.TOz, D.i1z, D.i2z, D.TITO, D.TIi1, D.TIi2, D.TOi1, D.TOi2, D.i12, a1, a2, a3, a4, b1, b2, b3, b4⟩
section
variable {X : Cx} {cv : Cfg} {XO : XOF} {e : Expr} {f fa fb fc : FE} {st : Stmt} {rest sa sb body : List Stmt} {b : FS} {pos p tpos : Pos} {tf : FT} {elts : List Expr} {k1 : Nat}
end
section
variable {X : Cx} {XO : XOT} {a b : Expr} {fa fb : FE} {pos : Pos}
end
end KT
set_option Elab.async false
set_option linter.all false
set_option maxRecDepth 100000
namespace KT
open PySem PySem.Spec PyProof.Rows
end KT
set_option Elab.async false
set_option linter.all false
set_option maxRecDepth 100000
namespace KT
open PySem PySem.Spec PyProof.Rows
section
variable {prog : Program} {w : World} {A : Around} {E : Value → Shared → Prop} {s : Shared}
def IsRevT (h : Heap) (a t : Addr) (i : Int) : Prop := ∃ o, h.get? a = some o ∧ o.cls = .type "reversed" ∧ o.data = .fields #[.ref t, rawInt i]
theorem IsRevT.typeIs {a t : Addr} {i : Int} (x : IsRevT s.heap a t i) : s.TypeIs (.ref a) "reversed" := let ⟨o, ho, hc, _⟩ := x; ⟨o, ho, hc⟩
theorem IsRevT.at {h h' : Heap} {a l : Addr} {i : Int} (x : IsRevT h a l i) (e : ∀ o, h.get? a = some o → h'.get? a = some o) : IsRevT h' a l i := let ⟨o, ho, r⟩ := x; ⟨o, e _ ho, r⟩
end
section
variable {prog : Program} {w : World} {A : Around} {E : Value → Shared → Prop} {s : Shared}
end
end KT
set_option Elab.async false
set_option linter.all false
set_option maxRecDepth 100000
namespace KT
open PySem PySem.Spec PyProof.Rows L2
section
variable {X : Cx} {XO : XOT} {e : Expr} {fa : FE} {pos p p2 p3 : Pos}
end
end KT
set_option Elab.async false
set_option linter.all false
set_option maxRecDepth 100000
namespace KT
open PySem PySem.Spec PyProof.Rows L2
section
variable {X : Cx} {XO : XOF} {cv : Cfg} {e : Expr} {f : FE} {tg : Expr} {tf : FT} {pos : Pos}
end
end KT
set_option Elab.async false
set_option linter.all false
set_option maxRecDepth 100000
namespace KT
open PySem PySem.Spec PyProof.Rows
section
variable {prog : Program} {w : World} {A : Around} {E : Value → Shared → Prop} {s : Shared}
end
end KT
set_option Elab.async false
set_option linter.all false
set_option maxRecDepth 100000
namespace KT
open PySem PySem.Spec PyProof.Rows L2
section
variable {X : Cx} {XO : XOT} {e : Expr} {fa : FE} {pos p p2 p3 : Pos}
end
end KT
set_option Elab.async false
set_option linter.all false
set_option maxRecDepth 100000
namespace KT
open PySem PySem.Spec PyProof.Rows L2
/-! ### for i in range(a, -1, -1), range(a, b) -/
def Itd (lo : Int) (n : Nat) : It := ⟨fun i _ => i < n, fun i H x H' => H' = H ∧ x = .int (lo - i), fun i _ => n ≤ i⟩
theorem turn_down {P : Program} {w : World} {K : PySem.W.Frag} {tg : Expr} (it : Addr) (lo : Int) (n : Nat) : Turn P w K tg (Itd lo n) [it] it (fun i h => IsRangeIter h it (lo + (i : Nat) * (-1)) ((n : Int) - (i : Nat)) (-1)) where
  mem := by simp
  obj := fun i h st b hb => by
    have e : b = it := by simpa using hb
    subst e
    exact ⟨_, st, fun v z => by
      have z' : Data.fields _ = Data.cell v := z
      cases z'⟩
  keep := fun i h h' st k => k it (by simp) _ st
  item := by
    intro X hP hw hK hc i pins s σ H E I hf st hg
    subst hP hw hK
    obtain ⟨f0, f1, f2, f3, f4, f5⟩ := hf it (by simp)
    have W := Walks.range (prog := X.prog) (w := X.w) (I.ok.hd hc) it lo (-1) n
    refine W.item i s _ _ hg st fun v h' tk hv st' kk => ?_
    obtain ⟨t, rfl⟩ := hv
    have I1 : Inv X pins σ H { s with heap := h', toks := tk } := I.turned (fun b o hb e => kk b o (by simpa using hb) e) f0 f1 f3 f4 f5
    refine ⟨_, rfl, go_of (s := { s with heap := h', toks := tk }) (n := "range_iterator") st' rfl rfl (by decide) ⟨.int (lo - i), H, I1, ⟨t, ?_⟩, ⟨rfl, rfl⟩, st', fun b hb => (hf b hb).1⟩⟩
    congr 1
    omega
  done := by
    intro X hP hw hK hc i pins s σ H E I hf st hg
    subst hP hw hK
    obtain ⟨f0, f1, f2, f3, f4, f5⟩ := hf it (by simp)
    exact wpAny_pyNext_range_end (I.ok.hd hc) st (by have : n ≤ i := hg; omega) fun h' eb => ⟨rfl, I.turned (t' := s.toks) (fun b o hb e => eb b o hb e) f0 f1 f3 f4 f5⟩
  self := fun _ _ _ _ _ st h => wpAny_pyIter_rangeiter st h
section
variable {X : Cx} {tg : Expr}
theorem down_it {pins : List (Addr × Obj)} {σ : L2.St} {H : Hp} {s : Shared} {R : It → Hp → Prop} {E : Value → Shared → Prop} {lo hi : Int} {t u v : Tok} {tk : Nat} (I : Inv X pins σ H s) (h1 : -(2 ^ 62) ≤ lo) (h2 : lo < 2 ^ 62) (h3 : -(2 ^ 62) ≤ hi) (h4 : hi < 2 ^ 62)
    (q : R (Itd lo (lo - hi).toNat) H) : wpAny (model X.prog X.w) X.A (pyIter (.ref s.heap.objs.size)) (PIE X pins σ tg R) E { s with heap := s.heap.push { cls := .type "range", data := .fields #[.int lo t, .int hi u, .int (-1) v] }, toks := tk } := by
  refine wpAny_pyIter_range (IsRange.new ..) (PySem.W.small_down h1 h2 h3 h4) ?_
  have I1 : Inv X pins σ H { s with heap := s.heap.push { cls := .type "range", data := .fields #[.int lo t, .int hi u, .int (-1) v] }, toks := tk } := I.kept fun b o e => Heap.get?_push_of_some _ e
  refine ⟨(s.heap.push { cls := .type "range", data := .fields #[.int lo t, .int hi u, .int (-1) v] }).objs.size, [(s.heap.push { cls := .type "range", data := .fields #[.int lo t, .int hi u, .int (-1) v] }).objs.size], _, _, H, rfl,
    I1.kept (t' := tk) fun b o e => Heap.get?_push_of_some _ e, turn_down _ lo (lo - hi).toNat, ?_, fun b hb => ?_, q⟩
  · have e1 : lo + ((0 : Nat) : Int) * (-1) = lo := by simp
    have e2 : (((lo - hi).toNat : Nat) : Int) - ((0 : Nat) : Int) = Builtin.Range.rangeSize lo hi (-1) := by rw [PySem.W.rangeSize_downNat]; omega
    show IsRangeIter _ _ (lo + ((0 : Nat) : Int) * (-1)) ((((lo - hi).toNat : Nat) : Int) - ((0 : Nat) : Int)) (-1)
    rw [e1, e2]
    exact Heap.get?_push_size _ rfl
  · have e : b = (s.heap.push { cls := .type "range", data := .fields #[.int lo t, .int hi u, .int (-1) v] }).objs.size := by simpa using hb
    subst e
    exact I1.fpOk (Nat.le_refl _) (I1.hok.fresh (Nat.le_refl _))
def iRngD (ta : TA) : TI := fun σ H R => ta σ H fun vs H1 => ∃ i j : Int, vs = [.int i, .int j, .int (-1)] ∧ (-(2 ^ 60) ≤ i ∧ i < 2 ^ 60 ∧ -(2 ^ 60) ≤ j ∧ j < 2 ^ 60) ∧ R (Itd i (i - j).toNat) H1
theorem pi_down {a b c : Expr} {ta : TA} {p pos : Pos} (hg : Gl X "range") (hm : X.mg "range" = none) (ha : PA X [a, b, c] ta) (hs : starEach [a, b, c] X.env = (false, eval a X.env) :: starEach [b, c] X.env) (hpl : (backTo pos (starEach [b, c] X.env)).any (·.1) = false) :
    PI X tg (.Call (.Name "range" p) [a, b, c] [] pos) (iRngD ta) := by
  intro pins s σ H R I h
  refine Call_ (ld_blt I hg hm boot_range (PyProof.Rows.callWith_type1 (thn (ha pos pins s σ H _ I h) fun us s1 ⟨vs, H1, I1, r1, q1⟩ => ?_) hs hpl))
  obtain ⟨i, j, e, ⟨q1, q2, q3, q4⟩, q⟩ := q1
  subst e
  cases r1 with
  | cons r rr =>
    cases rr with
    | cons r' rr =>
      cases rr with
      | cons r'' rr =>
        cases rr
        obtain ⟨t, rfl⟩ := r
        obtain ⟨t', rfl⟩ := r'
        obtain ⟨t'', rfl⟩ := r''
        exact call_range_3 (by decide) (down_it I1 (by omega) (by omega) (by omega) (by omega) q) (.inl (PyProof.noPylong_small (by omega)))
end
section
variable {X : Cx} {XO : XOT} {tg e e2 e3 : Expr} {f f2 f3 : FE} {pos p p1 p2 p3 p4 : Pos}
theorem yields_down {Z : Hp} {n : Nat} : Yields Z (Itd ((n : Int) - 1) n) (downFrom n) := fun H2 s i => by
  refine ⟨fun d hd => ?_, fun hi => ?_⟩
  · unfold downFrom at hd
    rw [List.getElem?_map] at hd
    cases hr : (List.range n)[i]? with
    | none => rw [hr] at hd; cases hd
    | some k =>
      rw [hr] at hd
      cases hd
      obtain ⟨hlt, hk⟩ := List.getElem?_eq_some_iff.mp hr
      rw [List.length_range] at hlt
      rw [List.getElem_range] at hk
      subst hk
      refine ⟨hlt, fun x H3 y => ?_⟩
      obtain ⟨e, y⟩ := y
      subst e y
      exact ⟨Same.refl _, rfl⟩
  · show n ≤ i
    rw [hi]
    simp [downFrom]
theorem i_down (C : BC X) {j1 j2 : Nat} (h : PE X e (tF XO f)) (hg : Gl X "range" := by rfl)
    (hs : starEach [e, .UnaryOp .USub (.Constant (.int 1) j1 p1) p2, .UnaryOp .USub (.Constant (.int 1) j2 p3) p4] X.env = (false, eval e X.env) :: starEach [.UnaryOp .USub (.Constant (.int 1) j1 p1) p2, .UnaryOp .USub (.Constant (.int 1) j2 p3) p4] X.env := by exact star_cons rfl)
    (hpl : (backTo pos (starEach [.UnaryOp .USub (.Constant (.int 1) j1 p1) p2, .UnaryOp .USub (.Constant (.int 1) j2 p3) p4] X.env)).any (·.1) = false := by exact star_any rfl) :
    PI X tg (.Call (.Name "range" p) [e, .UnaryOp .USub (.Constant (.int 1) j1 p1) p2, .UnaryOp .USub (.Constant (.int 1) j2 p3) p4] [] pos) (tI XO (iDown f)) :=
  PI.imp (pi_down hg C.mrange (a_cons h (a_cons (x_neg x_int) (a_cons (x_neg x_int) (a_nil (XO := XO)) (star_cons rfl)) (star_cons rfl)) hs) hs hpl) fun σ H R ⟨H₀, Hs, ρ, r, g, e, k, kx⟩ => by
    unfold iDown at e
    split at e
    · rename_i l a hf
      split at e
      · rename_i hn
        cases e
        have hb : big < 2 ^ 40 := by decide
        refine ⟨H₀, Hs, ρ, .ok (min l (min 2 (min 2 2))) [.int a, .int (-1), .int (-1)], g, by simp [eArgs, hf, eNeg, e1, eC, bindE, dNeg], fun l' ds vs H1 e' s1 r1 => ?_, fun c H' e => (nomatch e)⟩
        cases e'
        obtain ⟨v1, vr, rfl, q1, r1⟩ := r1
        obtain ⟨v2, vr, rfl, q2, r1⟩ := r1
        obtain ⟨v3, vr, rfl, q3, r1⟩ := r1
        have r1 : vr = [] := r1
        subst r1
        refine ⟨a, -1, by rw [show v1 = V.int a from q1, show v2 = V.int (-1) from q2, show v3 = V.int (-1) from q3], by omega, ?_⟩
        refine k 2 _ _ H1 rfl s1 fun Z _ _ => ?_
        rw [show (a - -1).toNat = (a + 1).toNat by omega]
        by_cases ha : 0 ≤ a + 1
        · have e1 : a = (((a + 1).toNat : Nat) : Int) - 1 := by omega
          have := yields_down (Z := Z) (n := (a + 1).toNat)
          rw [← e1] at this
          exact this
        · have e0 : (a + 1).toNat = 0 := by omega
          rw [e0]
          exact fun H2 s i => ⟨fun d hd => by simp [downFrom] at hd, fun _ => Nat.zero_le _⟩
      · cases e
    · rename_i c hf
      cases e
      exact ⟨H₀, Hs, ρ, .exc c, g, by simp [eArgs, hf], fun l' ds vs H1 e' => (nomatch e'), fun c' H' e' s => kx c' H' (by cases e'; rfl) s⟩
    · cases e
/-! ### defs as values -/
theorem x_fn {x : Str} {a : Addr} (V : X.mg x = some (.ref a)) (hg : Gl X x := by rfl) (hd : (x == ("__debug__" : Str)) = false := by decide) : PE X (.Name x pos) (tF XO (eC (fnD a))) :=
  PE.imp (pe_glob (v := .ref a) hg V rfl hd) fun σ H Q ⟨H₀, Hs, ρ, r, g, e, kk⟩ => kk.give e (Same.refl _) ⟨a, rfl, rfl⟩
/-- the defs that a name may hold -/
structure PF (CX : CXT) (P : Program) (w : World) (K : PySem.W.Frag) (mg : Str → Option Value) (base : Heap) (cv : Nat → Value) (n ar : Nat) (gs : List (Nat × FC)) : Prop where
  ex : ∀ a g, gs.lookup a = some g → ∃ x, FnF CX P w K mg base cv n x ar g ∧ mg x = some (.ref a)
section
variable {CX : CXT} {P : Program} {w : World} {K : PySem.W.Frag} {mg : Str → Option Value} {base : Heap} {cv : Nat → Value} {n ar : Nat} {gs : List (Nat × FC)} {x : Str} {a : Nat} {g : FC}
theorem pf_nil : PF CX P w K mg base cv n ar [] := ⟨fun a g h => (nomatch h)⟩
theorem pf_cons (V : mg x = some (.ref a)) (F : FnF CX P w K mg base cv n x ar g) (T : PF CX P w K mg base cv n ar gs) : PF CX P w K mg base cv n ar ((a, g) :: gs) := ⟨fun b g' h => by
  rw [List.lookup_cons] at h
  cases q : b == a with
  | true =>
    rw [q] at h
    cases h
    have : b = a := by simpa using q
    subst this
    exact ⟨x, F, V⟩
  | false => rw [q] at h; exact T.ex b g' h⟩
end
section
variable {CX : CXT} {es : List Expr} {fs : List FE} {n ar : Nat} {gs : List (Nat × FC)}
theorem x_callV (i : Nat) {x : Str} (F : PF CX X.prog X.w X.K X.mg X.base XO.cv n ar gs) (hr : Room n X.A) (L : XLink CX X XO) (ha : PA X (e :: es) (tAs XO fs)) (hn : Nat.beq ar fs.length = true := by rfl)
    (hN : X.N[i]? = some x := by rfl) (hv : Vis X.env.scope x := by first | exact Or.inl rfl | exact Or.inr (Or.inl rfl) | exact Or.inr (Or.inr rfl)) (hd : (x == ("__debug__" : Str)) = false := by decide)
    (hcd : (x == ("__classdict__" : Str)) = false := by decide) (he : starEach (e :: es) X.env = (false, eval e X.env) :: starEach es X.env := by exact star_cons rfl) (hpl : (backTo pos (starEach es X.env)).any (·.1) = false := by exact star_any rfl) :
    PE X (.Call (.Name x p) (e :: es) [] pos) (tF XO (eCallV i gs fs)) := by
  intro pins s σ H Q I ⟨H₀, Hs, ρ, r, gg, ee, kk⟩
  unfold eCallV at ee
  split at ee
  case h_2 => cases ee
  rename_i ai hρ
  obtain ⟨v, hσ, a, e', rfl⟩ := gg.vr i _ hρ
  have ea : ai = (a : Int) := by cases e'; rfl
  subst ea
  rw [Int.toNat_natCast] at ee
  split at ee
  case h_2 => cases ee
  rename_i g hgs
  obtain ⟨y, F, hm'⟩ := F.ex a g hgs
  obtain ⟨f, fd, ps, F, hm, hk, hb⟩ := F.ex
  have ef : f = a := by rw [hm'] at hm; cases hm; rfl
  subst ef
  refine wpAny_Call_Name_kw (thn (pe_var hN hv hd hcd pins s σ H (fun v H1 => v = .ref f ∧ H1 = H) I ⟨_, hσ, rfl, rfl⟩) fun u s1 ⟨v, H1, I', rv, hv1, hH1⟩ => ?_)
  subst hv1 hH1
  cases rv
  have hA : tAs XO fs σ H1 (fun vs H1 => spD XO.cv ar g vs H1 Q (fun cls _ H' => ∃ c, cls = XO.cv c ∧ XO.f c σ H')) := by
    refine tAs_bind gg ee kk fun l ds vs H1 s1 g1 r1 hl e1 k1 => ?_
    have hlen : vs.length = ar := by rw [r1.length, hl, Nat.eq_of_beq_eq_true hn]
    cases hg : g ds with
    | none => rw [hg] at e1; cases e1
    | some rc =>
      rw [hg] at e1
      refine ⟨ds, rc, hlen, r1.imp fun _ _ _ => trivial, hg, fun d v H' er s rp => ?_, fun c H' er s => ?_⟩
      · subst er
        exact k1.give (l := 2) e1 s (rp.imp fun z a q => ⟨q.1, g1.s1.free q.2⟩)
      · subst er
        exact ⟨c, rfl, k1.2 c H' (by cases e1; rfl) s⟩
  refine PySem.W.callWith_K (h₀ := X.base) I'.ok.mod.kin hk (thn (ha pos pins s1 σ H1 _ I' hA) fun us s1 ⟨vs, H1, I1, r, q⟩ => ⟨I1.kIn, ?_⟩) he hpl
  have hl : (us ++ []).length = ps.length := by rw [List.append_nil, ← r.length]; exact F.len _ _ _ _ q
  have hB := hb s1 us I1.kIn hl
  rw [List.append_nil] at hB
  refine wpAny_call (codeAny_mono (F.run X.A X.stack s1 H1 ⟨us, []⟩ us vs Q _ hr I1.env0 hB r q) fun r s' hq => ?_)
  cases r with
  | error e => exact L pins σ H1 s1 e s' I1 hq
  | ok fl =>
    cases fl with
    | ret u => exact I1.after hq
    | next => exact False.elim hq
    | brk => exact False.elim hq
    | cont => exact False.elim hq
end
/-! ### a module's tuple of numbers and texts, at an index -/
structure KTup (K : PySem.W.Frag) (mg : Str → Option Value) (x : Str) (d : PyData) : Prop where
  ex : ∃ (a : Addr) (ds : List PyData) (vs : List V), d = .tuple ds ∧ mg x = some (.ref a) ∧ (∀ H : Hp, SqT K H a vs) ∧ ∀ (P : PP) (H : Hp), Reps P H ds vs
theorem x_kix {x : Str} {d : PyData} {b : Expr} {fb : FE} (T : KTup X.K X.mg x d) (hb : PE X b (tF XO fb)) (hg : Gl X x := by rfl) (hd : (x == ("__debug__" : Str)) = false := by decide) (hs : PlainIx b := by exact fun _ _ => rfl) :
    PE X (.Subscript (.Name x p) b pos) (tF XO (eIx (eC d) fb)) := by
  obtain ⟨a, ds, vs, rfl, hm, hq, hrp⟩ := T.ex
  refine PE.imp (pe_ix ix_seq (pe_glob (v := .ref a) hg hm rfl hd) hb hs) fun σ H Q ⟨H₀, Hs, ρ, r, g, e, kk⟩ => ?_
  have e : bindE (fb ρ) (fun m y => (dIx (.tuple ds) y).map fun d => .ok (min 2 m) d) = some r := e
  refine tF_bind g e kk fun m y u H2 s2 g2 r2 e2' k2 => ?_
  cases hx : dIx (.tuple ds) y with
  | none => rw [hx] at e2'; cases e2'
  | some d =>
    rw [hx] at e2'
    cases y with
    | int i =>
      have hx : atP ds i = some d := hx
      cases (show u = .int i from r2)
      obtain ⟨z, hz, rz⟩ := (hrp (PL H₀ Hs (min 2 m)) H2).atI hx
      exact .inr (.inl ⟨a, vs, i, z, rfl, rfl, hq H2, hz, k2.give e2' (Same.refl _) rz⟩)
    | none => cases hx
    | bool _ => cases hx
    | str _ => cases hx
    | tuple _ => cases hx
    | list _ => cases hx
    | dict _ => cases hx
end
end KT
set_option Elab.async false
set_option linter.all false
set_option maxRecDepth 100000
namespace KT
open PySem PySem.Spec PyProof.Rows L2 AutoSeq1
/-! ### for i, x in enumerate(t), t a tuple -/
section
variable {prog : Program} {w : World} {A : Around} {E : Value → Shared → Prop} {s : Shared}
theorem nextOf_tup {it tu : Addr} {i : Nat} {its : Array Value} {y : Value} {Q : Value → Shared → Prop} (h1 : s.heap.IsTupleIter it tu i) (h2 : s.heap.IsTuple tu its) (hy : its[i]? = some y)
    (k : ∀ g, g.IsTupleIter it tu (i + 1) → Heap.SameBut it s.heap g → Q y { s with heap := g }) : wpAny (model prog w) A (Builtin.SmallTypes.nextOf (.ref it)) Q E s := by
  obtain ⟨ob, hob, kc, kd⟩ := id h1; obtain ⟨ot, hot, _, nt, kt⟩ := h2
  unfold Builtin.SmallTypes.nextOf
  refine wpAny_bind (wpAny_callSpecial?_slot (name := Str.ofString "__next__") h1.typeIs F.slot_tuple_iterator_next (wpAny_call_entry F.slot_tuple_iterator_next h1.typeIs F.entry_tuple_iterator_next ?_ (F.args_tuple_iterator_next_1 _)))
  show wpAny _ _ (field (.ref it) 0 >>= _) _ _ s; refine wpAny_bind (wpAny_field hob kd (x := .ref tu) rfl ?_)
  show wpAny _ _ (if (Value.ref tu == Value.none) = true then _ else _) _ _ s; rw [if_neg (show ¬ ((Value.ref tu == Value.none) = true) from Bool.false_ne_true)]
  show wpAny _ _ (field (.ref it) 1 >>= _) _ _ s; refine wpAny_bind (wpAny_field hob kd (x := .int i 0) rfl ?_)
  show wpAny _ _ (seqItems? (.ref tu) >>= _) _ _ s; refine wpAny_bind (wpAny_seqItems hot kt ?_)
  simp only [Int.toNat_natCast, hy]; refine wpAny_bind (wpAny_setField hob kd (by simp) (wpAny_pure ⟨y, rfl, wpAny_pure (k _ ?_ (Heap.SameBut.update ..))⟩))
  exact ⟨_, Heap.get?_update_self _ hob (Obj.isFreed_of_fields (Obj.data_mapFields kd _)), (Obj.cls_mapFields ..).trans kc, by rw [Obj.data_mapFields kd]; simp [rawInt]⟩
theorem nextOf_tupEnd {it tu : Addr} {i : Nat} {its : Array Value} {Q : Value → Shared → Prop} (hh : A.handled = none) (h1 : s.heap.IsTupleIter it tu i) (h2 : s.heap.IsTuple tu its) (hy : its[i]? = none)
    (k : ∀ g e, Heap.ExtBut it s.heap g → (∃ o, g.get? e = some o ∧ o.cls = .type "StopIteration") → E (.ref e) { s with heap := g }) : wpAny (model prog w) A (Builtin.SmallTypes.nextOf (.ref it)) Q E s := by
  obtain ⟨ob, hob, kc, kd⟩ := id h1; obtain ⟨ot, hot, _, nt, kt⟩ := h2
  unfold Builtin.SmallTypes.nextOf
  refine wpAny_bind (wpAny_callSpecial?_slot (name := Str.ofString "__next__") h1.typeIs F.slot_tuple_iterator_next (wpAny_call_entry F.slot_tuple_iterator_next h1.typeIs F.entry_tuple_iterator_next ?_ (F.args_tuple_iterator_next_1 _)))
  show wpAny _ _ (field (.ref it) 0 >>= _) _ _ s; refine wpAny_bind (wpAny_field hob kd (x := .ref tu) rfl ?_)
  show wpAny _ _ (if (Value.ref tu == Value.none) = true then _ else _) _ _ s; rw [if_neg (show ¬ ((Value.ref tu == Value.none) = true) from Bool.false_ne_true)]
  show wpAny _ _ (field (.ref it) 1 >>= _) _ _ s; refine wpAny_bind (wpAny_field hob kd (x := .int i 0) rfl ?_)
  show wpAny _ _ (seqItems? (.ref tu) >>= _) _ _ s; refine wpAny_bind (wpAny_seqItems hot kt ?_)
  simp only [Int.toNat_natCast, hy]; refine wpAny_bind (wpAny_rule (wpAny_bind (wpAny_setField hob kd (by simp) ?_)))
  show wpAny _ _ (newExc (.type "StopIteration") [] >>= _) _ _ _; refine wpAny_bind ?_; simp only [newExc, newTuple]
  refine wpAny_bind (wpAny_newObj_type ?_ (by size_fits)); refine wpAny_bind (m := firstArgMember _ _) (wpAny_of_eq (a := Value.none) (by first | rfl | (simp only [firstArgMember]; rfl)) ?_)
  refine wpAny_newObj_type ?_ (by size_fits); simp only [raiseNew]
  refine wpAny_bind (wpAny_handled ?_); first | rw [show A.in1.handled = none from hh] | rw [hh]
  refine wpAny_bind (wpAny_pure (wpAny_throw ?_)); exact k _ _ (((Heap.SameBut.update ..).extBut.push _).push _) ⟨_, Heap.get?_push_size _ rfl, rfl⟩
end
theorem tup_draws {prog : Program} {w : World} {A : Around} (hh : A.handled = none) (it tu : Addr) (hne : tu ≠ it) (its : Array Value) :
    Draws prog w A it [it, tu] its.size (fun i v => its[i]? = some v) (fun i h => h.IsTupleIter it tu i ∧ h.IsTuple tu its) where
  live := fun _ _ q => let ⟨o, ho, _⟩ := q.1; ⟨o, ho⟩
  frame := fun _ _ _ q hk => ⟨q.1.at fun o e => hk it (by simp) o e, let ⟨o, ho, r⟩ := q.2; ⟨o, hk tu (by simp) o ho, r⟩⟩
  item := fun i s Q E hi q k => nextOf_tup q.1 q.2 (y := its[i]) (by simp [hi]) fun g h1 h2 => k _ g s.toks (by simp [hi]) ⟨h1, q.2.extBut h2.extBut hne⟩ h2
  done := fun s Q E q k => nextOf_tupEnd hh q.1 q.2 (by simp) k
theorem newT_meets (l : Addr) (its : Array Value) (n : Nat) (dct : Option Addr) (sl : Array (Option Value)) :
    Meets (Builtin.«enumerate.__new__» ⟨[.type "enumerate", .ref l], []⟩) (fun _ R s => s.heap.get? l = some { cls := .type "tuple", dict := dct, data := .seq its n, slots := sl } ∧
      R (.ok (.ret (.ref (s.heap.push { cls := .type "tuple_iterator", data := .fields #[.ref l, .int 0 0] }).objs.size)))
        { s with heap := (s.heap.push { cls := .type "tuple_iterator", data := .fields #[.ref l, .int 0 0] }).push { cls := .type "enumerate", data := .fields #[.none, .bool false, .ref s.heap.objs.size, rawInt 0, .none, .none] } }) :=
  .of_wp fun prog w A R s h => by
    obtain ⟨hp, g, d, tk, os⟩ := s; obtain ⟨hl, h⟩ := h; have hsub := sub_enumerate
    have hT : Heap.IsTuple (Shared.heap ⟨hp, g, d, tk, os⟩) l its := ⟨_, hl, rfl, n, rfl⟩
    wp_walk using wpAny_loadPart' hl
    refine wpAny_stack_any fun st => wpAny_pure ?_
    split
    · rename_i c _ _ _ _ _
      cases (c == Value.type "enumerate") <;> (wp_walk using wpAny_loadPart' hl, wpAny_pyIter_tuple hT; exact ⟨_, rfl, h⟩)
    · wp_walk using wpAny_loadPart' hl, wpAny_pyIter_tuple hT; exact ⟨_, rfl, h⟩
theorem call_enumT {prog : Program} {w : World} {A : Around} {E : Value → Shared → Prop} {s : Shared} {l : Addr} {its : Array Value} {Q : Value → Shared → Prop} (hL : s.heap.IsTuple l its)
    (h : ∀ h', IsEnum h' (s.heap.objs.size + 1) s.heap.objs.size 0 .none → h'.IsTupleIter s.heap.objs.size l 0 → h'.objs.size = s.heap.objs.size + 2 → (∀ b o, s.heap.get? b = some o → h'.get? b = some o) → Q (.ref (s.heap.objs.size + 1)) { s with heap := h' }) :
    wpAny (model prog w) A (call (.type "enumerate") [.ref l]) Q E s := by
  obtain ⟨⟨c, dct, dt, sl⟩, hl, kc, n, kd⟩ := hL
  have kc : c = .type "tuple" := kc; have kd : dt = .seq its n := kd; subst kc kd
  refine callType_new F.called_enumerate (by decide) (F.typeCall_enumerate_1 _) (F.newCall_enumerate_1 _) (fun obj => F.args_object_init_2 obj _) F.entry_enumerate_new (newT_meets l its n dct sl) ⟨hl, ?_⟩
  have hz : (s.heap.push { cls := .type "tuple_iterator", data := .fields #[.ref l, .int 0 0] }).objs.size = s.heap.objs.size + 1 := Heap.size_push ..
  show _ ∧ _; rw [hz]
  have he : IsEnum ((s.heap.push { cls := .type "tuple_iterator", data := .fields #[.ref l, .int 0 0] }).push { cls := .type "enumerate", data := .fields #[.none, .bool false, .ref s.heap.objs.size, rawInt 0, .none, .none] }) (s.heap.objs.size + 1) s.heap.objs.size 0 .none := by
    have := Heap.get?_push_size (s.heap.push { cls := .type "tuple_iterator", data := .fields #[.ref l, .int 0 0] }) (o := { cls := .type "enumerate", data := .fields #[.none, .bool false, .ref s.heap.objs.size, rawInt 0, .none, .none] }) rfl
    rw [hz] at this; exact this
  exact ⟨⟨_, he, rfl⟩, h _ he ⟨_, Heap.get?_push_of_some _ (Heap.get?_push_size _ rfl), rfl, rfl⟩ (by rw [Heap.size_push, hz]) fun b o x => Heap.get?_push_of_some _ (Heap.get?_push_of_some _ x)⟩
def IteT (K : PySem.W.Frag) (a : Addr) : It :=
  ⟨fun i H => ∃ xs x, SqT K H a xs ∧ xs[i]? = some x, fun i H x H' => ∃ p v, x = .ref p ∧ H p = none ∧ H' = upd H p (.tup [.int i, v]) ∧ ∀ xs, SqT K H a xs → xs[i]? = some v, fun i H => ∃ xs, SqT K H a xs ∧ xs.length ≤ i⟩
theorem turn_enumT {P : Program} {w : World} {K : PySem.W.Frag} {elts : List Expr} {x1} {tpos : Pos} (a e it : Addr) (hne : e ≠ it) : Turn P w K (.Tuple elts x1 tpos) (IteT K a) [e, it] e (fun i h => ∃ old, IsEnum h e it (i : Int) old ∧ h.IsTupleIter it a i) where
  mem := by simp
  obj := fun i h ⟨old, st, li⟩ b hb => by
    rcases List.mem_cons.mp hb with rfl | hb
    · exact ⟨_, st, fun v z => by
        have z' : Data.fields _ = Data.cell v := z
        cases z'⟩
    · have e : b = it := by simpa using hb
      subst e
      obtain ⟨o, e, c, d⟩ := li
      exact ⟨o, e, fun v z => by rw [d] at z; cases z⟩
  keep := fun i h h' ⟨old, st, li⟩ k => ⟨old, k e (by simp) _ st, li.at fun o q => k it (by simp) o q⟩
  item := by
    intro X hP hw hK hc i pins s σ H E I hf ⟨old, st, li⟩ hg
    subst hP hw hK
    obtain ⟨xs, x, hq, hx⟩ := hg
    obtain ⟨its, rv, p, hz⟩ := I.tuple hq
    obtain ⟨u, hu, ru⟩ := rv.get hx
    have ht : s.heap.IsTuple a its.toArray := p
    obtain ⟨f0, f1, f2, f3, f4, f5⟩ := hf e (by simp)
    obtain ⟨g0, g1, g2, g3, g4, g5⟩ := hf it (by simp)
    have nai : a ≠ it := fun z => by
      obtain ⟨o, ho, hc1, _⟩ := ht
      obtain ⟨o', ho', hc2, _⟩ := li
      rw [z, ho'] at ho; cases ho; rw [hc2] at hc1; exact absurd hc1 (by decide)
    have nae : a ≠ e := fun z => by
      obtain ⟨o, ho, hc1, _⟩ := ht
      rw [z, st] at ho; cases ho; exact absurd (show Value.type "enumerate" = Value.type "tuple" from hc1) (by decide)
    have D : Draws X.prog X.w X.A.in1 it [it, a] its.toArray.size (fun i v => its.toArray[i]? = some v) (fun i h => h.IsTupleIter it a i ∧ h.IsTuple a its.toArray) := tup_draws (show X.A.in1.handled = none from I.ok.hd hc) it a nai its.toArray
    refine wpAny_pyNext_enum_itemD D st ⟨li, ht⟩ (by have := (List.getElem?_eq_some_iff.mp hu).1; simpa using this) hne (by simp [hne, Ne.symm nae]) fun y h1 tk hPy heo hst1 ht1 hz1 hk1 => ⟨_, rfl, ?_⟩
    have hyu : y = u := by
      have : its.toArray[i]? = some y := hPy
      rw [List.getElem?_toArray, hu] at this
      cases this; rfl
    subst hyu
    have li1 := hst1.1
    refine wpAny_letOwnedTupleGo_enum heo fun h2 he2 hs2 => ?_
    replace hs2 : Heap.SameBut e h1 h2 := hs2
    have hel : e < s.heap.objs.size := Heap.lt_size st
    have nP : H s.heap.objs.size = none := I.hok.fresh (Nat.le_refl _)
    have keep2 : ∀ b o, b ≠ e → b ≠ it → s.heap.get? b = some o → h2.get? b = some o := fun b o n1 n2 q => (hs2.2 b n1).trans (hk1 b o n1 n2 q)
    have hp2 : h2.get? s.heap.objs.size = some { cls := .type "tuple", data := .seq #[.int i tk, y] } := (hs2.2 _ (Nat.ne_of_gt hel)).trans ht1
    have nm : ∀ b, b ∉ [e, it] → b ≠ e ∧ b ≠ it := fun b hb => ⟨fun z => hb (by simp [z]), fun z => hb (by simp [z])⟩
    have tr : ∀ b o, H b = some o → b ≠ e ∧ b ≠ it := fun b o q => ⟨(fun z => by rw [z, f0] at q; cases q), (fun z => by rw [z, g0] at q; cases q)⟩
    have hok2 : HOk X.prog X.w (upd H s.heap.objs.size (.tup [.int i, x])) h2 := fun b ob q => by
      by_cases z : b = s.heap.objs.size
      · subst z
        rw [upd_same] at q
        cases q
        exact ⟨by show 2 ≤ sizeLine; decide, [.int i tk, y], .cons ⟨_, rfl⟩ (.cons ru .nil), _, hp2, rfl, _, rfl⟩
      · rw [upd_ne z] at q
        refine (I.hok b ob q).stay (fun c v hcc r => ?_) (fun c r => by rw [upd_ne (ne_of_none r nP)]; exact r) fun c ys r => by rw [upd_ne (ne_of_none r nP)]; exact r
        rcases hcc with hcc | hcc
        · rw [hcc] at r ⊢
          exact keep2 b v (tr b _ q).1 (tr b _ q).2 r
        · exact keep2 c v (tr c _ hcc).1 (tr c _ hcc).2 r
    have I2 : Inv X pins σ (upd H s.heap.objs.size (.tup [.int i, x])) { s with heap := h2, gens := s.gens, drawn := s.drawn, toks := tk + 1 } := by
      refine I.step (ch := [e, it]) (fun b hb => ?_) (fun b o _ _ hb q _ => keep2 b o (nm b hb).1 (nm b hb).2 q) (fun b o _ _ hb q _ => ⟨o.slots, keep2 b o (nm b hb).1 (nm b hb).2 q⟩) (fun b o hb q n => ?_) (fun b o hb q => ⟨o, keep2 b o (nm b hb).1 (nm b hb).2 q⟩)
        (fun b ys q => by rw [upd_ne (ne_of_none q nP)]; exact q) (fun b o y q => by rw [upd_ne (ne_of_none q nP)]; exact q) (fun b ps q => ⟨#[], by rw [upd_ne (ne_of_none q nP), q]; simp⟩) (fun m hm => ?_) hok2 I.bare
      · rcases List.mem_cons.mp hb with rfl | hb
        · exact ⟨f3, f1, f4, f5⟩
        · have z : b = it := by simpa using hb
          subst z
          exact ⟨g3, g1, g4, g5⟩
      · rw [upd_ne (Nat.ne_of_lt (Heap.lt_size q))]; exact n
      · obtain ⟨o, es, ep, ho, r⟩ := hm
        exact ⟨o, es, ep, keep2 _ o (Ne.symm f1) (Ne.symm g1) ho, r⟩
    refine ⟨.ref s.heap.objs.size, _, I2, rfl, ⟨_, x, rfl, nP, rfl, fun ys hy => by rw [I.tuple_inj hy hq]; exact hx⟩, ⟨y, ?_, ?_⟩, fun b hb => ?_⟩
    · have := he2
      push_cast
      exact this
    · exact li1.at fun o q => (hs2.2 it (Ne.symm hne)).trans q
    · have hn := (hf b hb).1
      have hb2 : b ≠ s.heap.objs.size := fun z => by
        rcases List.mem_cons.mp hb with q | q
        · rw [q] at z; exact absurd hel (by rw [z]; exact Nat.lt_irrefl _)
        · have q : b = it := by simpa using q
          obtain ⟨o, ho, _⟩ := li
          have := Heap.lt_size ho
          rw [← q, z] at this
          exact absurd this (Nat.lt_irrefl _)
      rw [upd_ne hb2]; exact hn
  done := by
    intro X hP hw hK hc i pins s σ H E I hf ⟨old, st, li⟩ hg
    subst hP hw hK
    obtain ⟨xs, hq, hx⟩ := hg
    obtain ⟨its, rv, p, hz⟩ := I.tuple hq
    have ht : s.heap.IsTuple a its.toArray := p
    obtain ⟨g0, g1, g2, g3, g4, g5⟩ := hf it (by simp)
    have hl := rv.length
    have hT : s.TypeIs (.ref e) "enumerate" := ⟨_, st, rfl⟩
    unfold pyNext
    refine wpAny_bind (wpAny_attempt (wpAny_callSpecial?_slot (name := Str.ofString "__next__") hT F.slot_enumerate_next (wpAny_call_entry F.slot_enumerate_next hT F.entry_enumerate_next ?_ (F.args_enumerate_next_1 _))))
    show wpAny _ _ (field (.ref e) 2 >>= _) _ _ _; refine wpAny_bind (wpAny_field st rfl (x := .ref it) rfl ?_)
    refine wpAny_bind (nextOf_tupEnd (I.ok.hd hc) li ht (by simp; omega) fun h' x he' hx' => ?_)
    obtain ⟨o, ho, kc⟩ := hx'
    refine wpAny_bind (wpAny_isInstance (T := "StopIteration") (b := true) ⟨o, ho, kc⟩ isSubtype_stop ?_)
    exact wpAny_pure ⟨rfl, I.turned (t' := s.toks) (fun b o hb q => he' b o hb q) g0 g1 g3 g4 g5⟩
  self := fun _ _ _ _ _ ⟨_, st, _⟩ h => wpAny_pyIter_enum st h
section
variable {X : Cx} {elts : List Expr} {k1 : Nat} {tpos p pos : Pos}
def iEnTT (K : PySem.W.Frag) (tl : TE) : TI := fun σ H R => tl σ H fun x H1 => ∃ a, x = .ref a ∧ (∃ xs, SqT K H1 a xs) ∧ R (IteT K a) H1
theorem pi_enumT {l : Expr} {tl : TE} (hg : Gl X "enumerate") (hm : X.mg "enumerate" = none) (hl : PE X l tl) (he : starEach [l] X.env = (false, eval l X.env) :: starEach [] X.env) (hpl : (backTo pos (starEach [] X.env)).any (·.1) = false) :
    PI X (.Tuple elts k1 tpos) (.Call (.Name "enumerate" p) [l] [] pos) (iEnTT X.K tl) := by
  intro pins s σ H R I h
  refine wpAny_Call_Name_kw (ld_blt I hg hm boot_enumerate ?_ (by decide) (by decide))
  have hA : tCons tl tNil σ H (fun vs H1 => match vs with
    | [x] => ∃ a, x = .ref a ∧ (∃ xs, SqT X.K H1 a xs) ∧ R (IteT X.K a) H1
    | _ => False) := h
  refine PyProof.Rows.callWith_type1 (thn (pa_cons hl pa_nil he pos pins s σ H _ I hA) fun us s1 ⟨vs, H1, I1, r1, q1⟩ => ?_) he hpl
  match vs, r1, q1 with
  | [x], r1, ⟨a, hx, ⟨xs, hq⟩, hR⟩ =>
    subst hx
    obtain ⟨u, rfl, ru⟩ := vals1 r1
    cases ru
    obtain ⟨its, rv, pl, hz⟩ := I1.tuple hq
    refine call_enumT (show s1.heap.IsTuple a its.toArray from pl) fun h' he' li' hz' hk' => wpAny_pyIter_enum he' ?_
    have hs : s1.heap.objs.size ≤ s1.heap.objs.size + 1 := Nat.le_succ _
    refine ⟨s1.heap.objs.size + 1, [s1.heap.objs.size + 1, s1.heap.objs.size], _, IteT X.K a, H1, rfl, I1.kept (t' := s1.toks) hk', turn_enumT a _ _ (Nat.succ_ne_self _), ⟨_, he', li'⟩, fun b hb => ?_, hR⟩
    rcases List.mem_cons.mp hb with rfl | hb
    · exact I1.fpOk hs (I1.hok.fresh hs)
    · have z : b = s1.heap.objs.size := by simpa using hb
      subst z
      exact I1.fpOk (Nat.le_refl _) (I1.hok.fresh (Nat.le_refl _))
end
theorem yields_enumT {K : PySem.W.Frag} {Z : Hp} {p : Addr} {vs : List V} {ds : List PyData} (hl : Z p = some (.tup vs)) (r : Reps (fun _ _ => False) Z ds vs) : Yields Z (IteT K p) (enumFrom 0 ds) := fun H2 s i => by
  have hq : SqT K H2 p vs := SqT.of (s _ _ hl)
  refine ⟨fun d hd => ?_, fun hi => ⟨vs, hq, by rw [r.length, hi, enum_len]; exact Nat.le_refl _⟩⟩
  rw [enum_get] at hd
  cases hx : ds[i]? with
  | none => rw [hx] at hd; cases hd
  | some x =>
    rw [hx] at hd
    cases hd
    obtain ⟨v, hv, rv⟩ := r.get hx
    refine ⟨⟨vs, v, hq, hv⟩, fun y H3 yl => ?_⟩
    obtain ⟨q, v', rfl, hn, rfl, hv'⟩ := yl
    have := hv' vs hq
    rw [hv] at this
    cases this
    refine ⟨same_new hn _, q, _, rfl, upd_same, ⟨_, _, rfl, ?_, _, _, rfl, (rv.same s).same (same_new hn _), rfl⟩⟩
    show V.int _ = V.int _
    rw [Nat.zero_add]
section
variable {X : Cx} {XO : XOF} {cv : Cfg} {body : List Stmt} {b : FS} {pos p tpos : Pos} {tf : FT} {elts : List Expr} {k1 : Nat}
theorem s_forET (i : Nat) {x : Str} {xp p1 : Pos} (hp : PassesOwn (model X.prog X.w) X.A X.env X.xe) (hc : X.calm = true) (hm : X.mg "enumerate" = none) (ht : Tg X cv (.Tuple elts k1 tpos) tf) (hb : PSs X body (tS cv XO b)) (hN : X.N[i]? = some x := by rfl)
    (hv : Vis X.env.scope x := by first | exact Or.inl rfl | exact Or.inr (Or.inl rfl) | exact Or.inr (Or.inr rfl)) (hd : (x == ("__debug__" : Str)) = false := by decide) (hcd : (x == ("__classdict__" : Str)) = false := by decide) (hg : Gl X "enumerate" := by rfl)
    (he : starEach [.Name x xp] X.env = (false, eval (.Name x xp) X.env) :: starEach [] X.env := by exact star_cons rfl) (hpl : (backTo p1 (starEach [] X.env)).any (·.1) = false := by exact star_any rfl)
    (hs : ∀ y, foldedSetIterable (.Call (.Name "enumerate" p) [.Name x xp] [] p1) X.env y = pure y := by intro _; rfl) : PS X (.For (.Tuple elts k1 tpos) (.Call (.Name "enumerate" p) [.Name x xp] [] p1) body [] pos) (tS cv XO (sForET i tf b)) := by
  obtain ⟨gt, hg', hd'⟩ := ht.ex
  refine PS.imp (ps_for hp hc (pi_enumT hg hm (pe_var (i := i) hN hv hd hcd) he hpl) hg' hb hs) fun D σ H ⟨H₀, F, ρ, r, g, e, k⟩ => ?_
  obtain ⟨O, o⟩ := g.ex
  obtain ⟨gf, hF⟩ := g.freeze o
  have hT : ∀ a xs, H a = some (.tup xs) → froz O H a = some (.tup xs) := fun a xs hx => by
    cases q : O a with
    | none => rw [froz_none q]; exact hx
    | some i => obtain ⟨vs, hv⟩ := o.ls a i q; rw [hx] at hv; cases vs <;> cases hv
  unfold sForET at e
  split at e
  · rename_i xs hρ
    split at e
    · rename_i hlf
      obtain ⟨v, hσ, p, vs, rfl, rl, rs⟩ := o.sl i _ hρ
      exact ⟨.ref p, hσ, p, rfl, ⟨vs, SqT.of rl⟩, for_core gf (yields_enumT (hT p vs rl) (Reps.free hT xs vs hlf rs)) hd' e (k.thaw g.s0 hF)⟩
    · cases e
  · rename_i xs hρ
    split at e
    · rename_i hlf
      obtain ⟨v, hσ, p, vs, rfl, rl, rs⟩ := o.sl i _ hρ
      exact ⟨.ref p, hσ, p, rfl, ⟨vs, SqT.of rl⟩, for_core gf (yields_enumT (hT p vs rl) (Reps.free hT xs vs hlf rs)) hd' e (k.thaw g.s0 hF)⟩
    · cases e
  · cases e
end
end KT
set_option Elab.async false
set_option linter.all false
set_option maxRecDepth 100000
namespace KT
open PySem PySem.Spec PyProof.Rows L2
section
variable {X : Cx} {XO : XOF} {cv : Cfg} {pos : Pos} {H₀ F H : Hp} {ρ : Rho} {σ : L2.St}
end
end KT
set_option Elab.async false
set_option linter.all false
set_option maxRecDepth 100000
namespace KT
open PySem PySem.Spec PyProof.Rows L2
/-! ### the end: the text's defs as they stand, all with n calls, the law's call -/
structure FunT (K : PySem.W.Frag) (mg : Str → Option Value) (x : Str) (st : Stmt) (ps : List Str) : Prop where
  ex : ∃ f fd, Fun K x x st f fd ∧ mg x = some (.ref f) ∧ Binds K fd ps [] ∧ ∀ (s : Shared) (us : List Value), us.length = ps.length → BindsTo s fd ⟨us, []⟩ (ps.zip us)
section
variable {P : Program} {w : World} {K : PySem.W.Frag} {mg : Str → Option Value} {base : Heap} {cv : Nat → Value} {CX : CXT} {n ar : Nat} {x : Str} {st : Stmt} {ps : List Str} {g : FC}
theorem fnF0 (F : FunT K mg x st ps) : FnF CX P w K mg base cv 0 x ar (fun _ => none) := by
  obtain ⟨f, fd, F, hm, hb, _⟩ := F.ex
  have no : ∀ vs H Q E, ¬ spD cv ar (fun _ => none) vs H Q E := fun vs H Q E h => by
    obtain ⟨ds, r, _, _, z, _⟩ := h
    cases z
  exact ⟨f, fd, ps, ⟨fun vs H Q E h => absurd h (no vs H Q E), fun A outer s H args us vs Q E _ _ _ _ h => absurd h (no vs H Q E)⟩, hm, F.kp, hb⟩
theorem fnFS (F : FunT K mg x st ps) (ok : ∀ f fd, Fun K x x st f fd → FnOk P w K mg base CX n f fd ps (spD cv ar g)) : FnF CX P w K mg base cv n x ar g := by
  obtain ⟨f, fd, F, hm, hb, _⟩ := F.ex
  exact ⟨f, fd, ps, ok f fd F, hm, F.kp, hb⟩
theorem funT_mk {h : Heap} {f : Addr} {oc : Value} {od an : Option Addr} {osl : Array (Option Value)} {kV doc pm cdv ct : Value} (X : K.In h) (G : h.Ns mainGlobals mg) (a : PySem.W.nsIn K mainGlobals x = some (some (.ref f)))
    (l : K.lookup f = some ⟨oc, od, .func (PySem.W.fnOf x x (defArgs st) (defBody st) (defScope st) .none kV doc pm an cdv ct), osl⟩) (c : PySem.W.codeIn K cdv x = true) (k : PySem.W.keepIn K (.ref f) = true)
    (hb : ∀ (kV doc pm : Value) (an : Option Addr) (cdv ct : Value) (us : List Value), us.length = ps.length → bindArgs (PySem.W.fnOf x x (defArgs st) (defBody st) (defScope st) .none kV doc pm an cdv ct) ⟨us, []⟩ = pure (ps.zip us)) : FunT K mg x st ps :=
  have F := fun_mk (st := st) l c k
  ⟨f, _, F, PySem.W.mg_of X G a, F.binds hb, fun s us hl => .of_eq (hb kV doc pm an cdv ct us hl)⟩
end
theorem len1 {us : List Value} (h : us.length = 1) : ∃ a, us = [a] := List.length_eq_one_iff.mp h
theorem len2 {us : List Value} (h : us.length = 2) : ∃ a b, us = [a, b] := by
  cases us with
  | nil => cases h
  | cons a r => obtain ⟨b, rfl⟩ := len1 (by simpa using h); exact ⟨a, b, rfl⟩
theorem len3 {us : List Value} (h : us.length = 3) : ∃ a b c, us = [a, b, c] := by
  cases us with
  | nil => cases h
  | cons a r => obtain ⟨b, c, rfl⟩ := len2 (by simpa using h); exact ⟨a, b, c, rfl⟩
theorem len4 {us : List Value} (h : us.length = 4) : ∃ a b c d, us = [a, b, c, d] := by
  cases us with
  | nil => cases h
  | cons a r => obtain ⟨b, c, d, rfl⟩ := len3 (by simpa using h); exact ⟨a, b, c, d, rfl⟩
/-- the written part bears no list -/
def noLists (K : PySem.W.Frag) : Bool := K.all fun p => p.2.cls != .type "list"
theorem frag_mem : ∀ {K : PySem.W.Frag} {a : Addr} {o : Obj}, K.lookup a = some o → (a, o) ∈ K
  | [], _, _, e => by cases e
  | (b, u) :: r, a, o, e => by
    rw [List.lookup_cons] at e
    by_cases z : (a == b) = true
    · rw [z] at e
      cases e
      have : a = b := by simpa using z
      subst this
      exact List.mem_cons_self
    · have z : (a == b) = false := by simpa using z
      rw [z] at e
      exact List.mem_cons_of_mem _ (frag_mem e)
theorem noLists_of {K : PySem.W.Frag} (h : noLists K = true) {a : Addr} {o : Obj} (e : K.lookup a = some o) : o.cls ≠ .type "list" := by
  unfold noLists at h
  rw [List.all_eq_true] at h
  have := h (a, o) (frag_mem e)
  simpa using this
theorem reps_ints {P : PP} {H : Hp} : ∀ ns : List Int, Reps P H (ns.map .int) (ns.map V.int)
  | [] => rfl
  | n :: r => ⟨.int n, _, rfl, rfl, reps_ints r⟩
theorem rep_script {K : PySem.W.Frag} {H : Hp} {a : Addr} {ns : List Int} (hk : noLists K = true) (h : SqL K H a (ns.map V.int)) : Rep (fun _ _ => True) H (.list (ns.map .int)) (.ref a) := by
  rcases h with h | ⟨o, its, n, hl, hc, _⟩
  · exact ⟨a, _, rfl, h.elim (fun z => .inl ⟨trivial, z⟩) fun z => .inr ⟨trivial, z⟩, reps_ints ns⟩
  · exact absurd hc (noLists_of hk hl)
/-! ### the error classes -/
def exName : Nat → Str
  | 1 => "NotRead"
  | 2 => "NoTurning"
  | 3 => "NoNumber"
  | 4 => "NoThing"
  | 5 => "Unlike"
  | _ => "KindError"
def gv (K : PySem.W.Frag) (x : Str) : Option Value := match PySem.W.nsIn K mainGlobals x with
  | some (some v) => some v
  | _ => none
/-- the class of an own error by its number; one that the text lacks: KindError -/
def cvOf (K : PySem.W.Frag) (c : Nat) : Value := match gv K (exName c) with
  | some v => v
  | none => (gv K "KindError").getD .none
def excB (K : PySem.W.Frag) (x : Str) : Bool := match gv K x with
  | some (.ref C) => PySem.W.excIn K C vbm "ValueError.__new__"
  | _ => false
section
variable {K : PySem.W.Frag} {h : Heap} {mg : Str → Option Value} {x : Str} {sub : Nat → Bool}
theorem gv_mg {v : Value} (X : K.In h) (G : h.Ns mainGlobals mg) (e : gv K x = some v) : mg x = some v := by
  unfold gv at e
  split at e
  · rename_i z
    cases e
    exact PySem.W.mg_of X G z
  · cases e
theorem excF_own {c : Nat} (X : K.In h) (G : h.Ns mainGlobals mg) (hx : x = exName c)
    (hb : excB K x = true) : ExcF K mg (cvOf K) x c := by
  refine ⟨?_⟩
  unfold excB at hb
  split at hb
  · rename_i C hC
    refine ⟨C, ?_, gv_mg X G hC, hb⟩
    unfold cvOf
    rw [← hx, hC]
  · cases hb
theorem mF_of (X : K.In h) (G : h.Ns mainGlobals mg) (hb : (["len", "int", "bool", "str", "tuple", "list", "isinstance", "range", "enumerate", "zip", "reversed"] : List Str).all (fun x => PySem.W.nsIn K mainGlobals x == some none) = true) : MF mg := by
  simp only [List.all_cons, List.all_nil, Bool.and_true, Bool.and_eq_true, beq_iff_eq] at hb
  obtain ⟨a, b, c, d, e, f, g, i, j, k, l⟩ := hb
  exact ⟨PySem.W.mg_none_of X G a, PySem.W.mg_none_of X G b, PySem.W.mg_none_of X G c, PySem.W.mg_none_of X G d, PySem.W.mg_none_of X G e, PySem.W.mg_none_of X G f, PySem.W.mg_none_of X G g, PySem.W.mg_none_of X G i, PySem.W.mg_none_of X G j, PySem.W.mg_none_of X G k, PySem.W.mg_none_of X G l⟩
end
theorem cx1_none {P : Program} {w : World} {H : Hp} {s : Shared} {e : Value} {s' : Shared} (h : CX1 P w [] H s (fun _ _ _ => False) e s') : False := by
  obtain ⟨_, _, _, _, _, _, _, _, _, z⟩ := h
  exact z
theorem law_sp {K : PySem.W.Frag} {cv : Nat → Value} {g : FC} {H : Hp} {a : Addr} {ns : List Int} (hk : noLists K = true) (hg : g [.list (ns.map .int)] = some (.ok (.bool true))) (h : SqL K H a (ns.map V.int)) : spD cv 1 g [.ref a] H (fun v _ => v = .bl true) fun _ _ _ => False :=
  ⟨[.list (ns.map .int)], _, rfl, ⟨.ref a, [], rfl, rep_script hk h, rfl⟩, hg, fun d v H' e _ r => by cases e; exact r, fun c H' e => (nomatch e)⟩
theorem walk {l : PySem.W.OpenLaw} {q : Program} {loose : List Str} {XP : (Str → Option Value) → Heap → Prop} {YP : World → Heap → Prop} {d : DefRec} {K : Params → PySem.W.Frag} {g : FC} {N : Nat} {st : Stmt} (hn : l.most = some 63) (hdf : d.params.defaults = []) (hr : Room N callerA)
    (hY : ∀ (w : World) (h : Heap), YP w h → (K w.params).In h) (hd : d.name = "law")
    (F : ∀ (w : World) (mg : Str → Option Value) (h : Heap), (K w.params).In h → h.Ns mainGlobals mg → FunT (K w.params) mg "law" st ["script"] ∧
      ∀ f fd, Fun (K w.params) "law" "law" st f fd → ∀ base : Heap, FnOk l.prog w (K w.params) mg base (CX1 l.prog w) N f fd ["script"] (spD (cvOf (K w.params)) 1 g))
    (hL : ∀ w : World, noLists (K w.params) = true) (hg : ∀ ns : List Int, ns.length ≤ 63 → g [.list (ns.map .int)] = some (.ok (.bool true))) :
    PySem.W.WalkO q loose XP YP l.row.toRowW d [] (fun f vs => PySem.call f vs) :=
  L2.walk_of (n := 63) (k := N) (x := "script") (CX := fun w => CX1 l.prog w) (sp := fun w => spD (cvOf (K w.params)) 1 g) hn (by decide) hdf hr hY (fun w mg fa h KX G hm => by
    obtain ⟨T, ok⟩ := F w mg h KX G
    obtain ⟨f, fd, FF, hmf, _, hb⟩ := T.ex
    rw [hd, hmf] at hm
    cases hm
    exact ⟨fd, fun s u => hb s [u] rfl, fun base _ _ => ok _ fd FF base⟩) (fun w H a ns hl _ hS => law_sp (hL w) (hg ns hl) hS) fun w H s e s' z => cx1_none z
end KT
set_option Elab.async false
set_option linter.all false
set_option maxRecDepth 100000
namespace KT
open PySem PySem.Spec PyProof.Rows L2
/-! ### a module's constants -/
def scB : PyData → Value → Bool
  | .int i, .int j _ => i == j
  | .str x, .str y _ => x == y
  | _, _ => false
def scAll : List PyData → List Value → Bool
  | [], [] => true
  | d :: ds, u :: us => scB d u && scAll ds us
  | _, _ => false
def scV : PyData → V
  | .int i => .int i
  | .str x => .str x
  | _ => .non
theorem sc_rel {d : PyData} {u : Value} (h : scB d u = true) : RelV (scV d) u ∧ ∀ (P : PP) (H : Hp), Rep P H d (scV d) := by
  unfold scB at h
  split at h
  · rename_i i j t
    have e : i = j := by simpa using h
    subst e
    exact ⟨⟨t, rfl⟩, fun _ _ => rfl⟩
  · rename_i x y t
    have e : x = y := by simpa using h
    subst e
    exact ⟨⟨t, rfl⟩, fun _ _ => rfl⟩
  · cases h
theorem sc_all : ∀ {ds : List PyData} {us : List Value}, scAll ds us = true → Vals (ds.map scV) us ∧ ∀ (P : PP) (H : Hp), Reps P H ds (ds.map scV)
  | [], [], _ => ⟨.nil, fun _ _ => rfl⟩
  | d :: ds, u :: us, h => by
    simp only [scAll, Bool.and_eq_true] at h
    obtain ⟨r1, p1⟩ := sc_rel h.1
    obtain ⟨r2, p2⟩ := sc_all h.2
    exact ⟨.cons r1 r2, fun P H => ⟨_, _, rfl, p1 P H, p2 P H⟩⟩
  | [], _ :: _, h => by cases h
  | _ :: _, [], h => by cases h
def ktupB (K : PySem.W.Frag) (x : Str) (d : PyData) : Bool := match d, PySem.W.nsIn K mainGlobals x with
  | .tuple ds, some (some (.ref a)) => (match K.lookup a with
    | some ⟨.type c, _, .seq its _, _⟩ => (c == "tuple") && decide (its.size ≤ 1000) && scAll ds its.toList
    | _ => false)
  | _, _ => false
theorem kTup_of {K : PySem.W.Frag} {mg : Str → Option Value} {h : Heap} {x : Str} {d : PyData} (X : K.In h) (G : h.Ns mainGlobals mg) (z : ktupB K x d = true) : KTup K mg x d := by
  unfold ktupB at z
  split at z
  · rename_i ds a hn
    split at z
    · rename_i c od its n sl hl
      simp only [Bool.and_eq_true, beq_iff_eq, decide_eq_true_eq] at z
      obtain ⟨⟨rfl, hz⟩, hs⟩ := z
      obtain ⟨r, p⟩ := sc_all hs
      exact ⟨a, ds, _, rfl, PySem.W.mg_of X G hn, fun H => .inr ⟨_, its, n, hl, rfl, rfl, Nat.le_trans hz (by decide), r⟩, p⟩
    · cases z
  · cases z
end KT
set_option Elab.async false
set_option linter.all false
set_option maxRecDepth 100000
namespace KT
open PySem PySem.W PyProof.Rows
/-! ### what the tree of a sort's questions comes to: a row that rises -/
noncomputable def ev {α : Type} (lt : Nat → Nat → Bool) : KasT α → α
  | .ret a => a
  | .ask i j k => ev lt (k (lt i j))
section
variable {O : KeyOrd} (κ : Nat → O.α)
variable {κ}
end
end KT
set_option Elab.async false
set_option linter.all false
namespace KT
open PySem
/-! ### a dict of True: its keys whole numbers, or tuples within tuples -/
def isI : PyData → Bool
  | .int _ => true
  | _ => false
def isKB : PyData → Bool
  | .tuple ds => KN.kD (.tuple ds) && decide ((PyData.tuple ds).depth ≤ 8)
  | _ => false
def keyOk (ks : List PyData) (x : PyData) : Bool := (isI x && ks.all isI) || (isKB x && ks.all isKB)
def hasK (ks : List PyData) (x : PyData) : Bool := ks.any fun k => PyData.eqv k x
def eHas (neg : Bool) (f : FE) (i : Nat) : FE := fun ρ => bindE (f ρ) fun _ x => match ρ[i]? with
  | some (some (.dct ks)) => if keyOk ks x = true then some (.ok 2 (.bool (if neg then !(hasK ks x) else hasK ks x))) else none
  | _ => none
def sDnew (i : Nat) : FS := fun ρ => some (.next (ρ.set i (some (.dct []))))
/-- met[x] = True, x not yet a key -/
def sDput (i : Nat) (f : FE) : FS := fun ρ => match ρ[i]? with
  | some (some (.dct ks)) => bindS (f ρ) ρ fun _ x => if (keyOk ks x && !(hasK ks x) && decide (ks.length < big)) = true then some (.next (ρ.set i (some (.dct (ks ++ [x]))))) else none
  | _ => none
end KT
set_option Elab.async false
set_option linter.all false
set_option maxRecDepth 100000
namespace KT
open PySem PySem.W PyProof.Rows
/-! ### one row that rises, of given keys -/
section
variable {O : KeyOrd}
end
/-! ### the builtin itself, over a bare heap -/
section
variable {prog : Program} {w : World} {A : Around} {E : Value → Shared → Prop} {s : Shared}
/-- what stays: every object but one -/
def But (a : Addr) (h h' : Heap) : Prop := ∀ b o, b ≠ a → h.get? b = some o → h'.get? b = some o
theorem But.trans {a : Addr} {h h' h2 : Heap} (k : But a h h') (k2 : But a h' h2) : But a h h2 := fun b o hb e => k2 b o hb (k b o hb e)
end
end KT
set_option Elab.async false
set_option linter.all false
set_option maxRecDepth 100000
namespace KT
open PySem PySem.W PyProof.Rows
section
variable {prog : Program} {w : World} {A : Around} {E : Value → Shared → Prop} {s : Shared}
def Ext (h h' : Heap) : Prop := ∀ b o, h.get? b = some o → h'.get? b = some o
end
end KT
set_option Elab.async false
set_option linter.all false
set_option maxRecDepth 100000
namespace KT
open PySem PySem.W PyProof.Rows
/-! ### rows of whole numbers: tuples -/
def RowsAre (h : Heap) : List Value → List (List Int) → Prop
  | [], [] => True
  | v :: vs, r :: rs => (∃ (a : Addr) (o : Obj) (xs : Array Value) (n : Nat), v = .ref a ∧ h.get? a = some o ∧ o.cls = .type "tuple" ∧ o.data = .seq xs n ∧ IntsAre xs.toList r) ∧ RowsAre h vs rs
  | _, _ => False
theorem RowsAre.length {h : Heap} : ∀ {vs : List Value} {rs : List (List Int)}, RowsAre h vs rs → vs.length = rs.length
  | [], [], _ => rfl
  | [], _ :: _, h => h.elim
  | _ :: _, [], h => h.elim
  | _ :: vs, _ :: rs, h => by simp [h.2.length]
theorem RowsAre.ext {h h' : Heap} (k : Ext h h') : ∀ {vs : List Value} {rs : List (List Int)}, RowsAre h vs rs → RowsAre h' vs rs
  | [], [], _ => trivial
  | [], _ :: _, h => h.elim
  | _ :: _, [], h => h.elim
  | _ :: vs, _ :: rs, ⟨⟨a, o, xs, n, e, ho, r⟩, t⟩ => ⟨⟨a, o, xs, n, e, k _ _ ho, r⟩, t.ext k⟩
theorem RowsAre.at_ {h : Heap} : ∀ {vs : List Value} {rs : List (List Int)} {i : Nat}, RowsAre h vs rs → i < vs.length →
    ∃ (a : Addr) (o : Obj) (xs : Array Value) (n : Nat), vs.getD i Value.none = .ref a ∧ h.get? a = some o ∧ o.cls = .type "tuple" ∧ o.data = .seq xs n ∧ IntsAre xs.toList (rs.getD i [])
  | [], [], _, _, hi => by simp at hi
  | [], _ :: _, _, h, _ => h.elim
  | _ :: _, [], _, h, _ => h.elim
  | _ :: vs, _ :: rs, 0, h, _ => h.1
  | _ :: vs, _ :: rs, i + 1, h, hi => by
    have := RowsAre.at_ (i := i) h.2 (by simpa using hi)
    simpa using this
section
variable {M : Model} {prog : Program} {w : World} {A : Around} {E : Value → Shared → Prop} {s : Shared}
end
end KT
set_option Elab.async false
set_option linter.all false
set_option maxRecDepth 100000
namespace KT
open PySem PySem.Spec PyProof.Rows L2
section
variable {X : Cx}
variable {XO : XOT} {a : Expr} {fa : FE} {pos p : Pos}
end
end KT
set_option Elab.async false
set_option linter.all false
set_option maxRecDepth 100000
namespace KT
open PySem PySem.Spec PyProof.Rows L2
section
variable {X : Cx}
variable {XO : XOT} {a : Expr} {fa : FE} {pos p : Pos}
end
end KT
set_option Elab.async false
set_option linter.all false
set_option maxRecDepth 100000
namespace KT
open PySem PySem.Spec PyProof.Rows L2
/-! ### for x in reversed(list) -/
def Itr (K : PySem.W.Frag) (a : Addr) (n : Nat) : It :=
  ⟨fun i H => ∃ xs x, SqL K H a xs ∧ i < n ∧ xs[n - 1 - i]? = some x, fun i H x H' => H' = H ∧ ∀ xs, SqL K H a xs → xs[n - 1 - i]? = some x, fun i _ => i = n⟩
section
variable {X : Cx} {XO : XOT} {e : Expr} {f : FE} {pos p : Pos} {tg : Expr}
end
end KT
set_option Elab.async false
set_option linter.all false
set_option maxRecDepth 100000
namespace KT
open PySem PySem.Spec PyProof.Rows L2
/-! ### a datum that may be a key -/
mutual
theorem nr_of {P : PP} {H : Hp} : ∀ (d : PyData) (v : V), KN.kD d = true → Rep P H d v → NR H d v
  | .int _, _, _, h => h
  | .str _, _, _, h => h
  | .tuple ds, _, k, ⟨a, vs, e, h, r⟩ => ⟨a, vs, e, h, nrs_of ds vs (by simpa [KN.kD] using k) r⟩
  | .none, _, k, _ => by simp [KN.kD] at k
  | .bool _, _, k, _ => by simp [KN.kD] at k
  | .list _, _, k, _ => by simp [KN.kD] at k
  | .dict _, _, k, _ => by simp [KN.kD] at k
theorem nrs_of {P : PP} {H : Hp} : ∀ (ds : List PyData) (vs : List V), KN.kDs ds = true → Reps P H ds vs → NRs H ds vs
  | [], _, _, h => h
  | d :: ds, _, k, ⟨v, r, e, h, t⟩ => by
    have k' : KN.kD d = true ∧ KN.kDs ds = true := by simpa [KN.kDs] using k
    exact ⟨v, r, e, nr_of d v k'.1 h, nrs_of ds r k'.2 t⟩
end
mutual
theorem nh_of {P : Program} {w : World} {H : Hp} {h : Heap} (ok : HOk P w H h) : ∀ (d : PyData) (v : V) (u : Value), NR H d v → RelV v u → KN.NH h d u
  | .int i, _, _, e, r => by cases (show _ = _ from e); exact r
  | .str i, _, _, e, r => by cases (show _ = _ from e); exact r
  | .tuple ds, _, _, ⟨a, vs, e, hh, t⟩, r => by
    subst e; cases r
    obtain ⟨_, its, rs, o, h1, h2, n, h3⟩ := (show ObjOk P w H h a (.tup vs) from ok a _ hh)
    exact ⟨a, o, its.toArray, n, rfl, h1, h2, h3, by simpa using nhs_of ok ds vs its t rs⟩
  | .none, _, _, e, _ => e.elim
  | .bool _, _, _, e, _ => e.elim
  | .list _, _, _, e, _ => e.elim
  | .dict _, _, _, e, _ => e.elim
theorem nhs_of {P : Program} {w : World} {H : Hp} {h : Heap} (ok : HOk P w H h) : ∀ (ds : List PyData) (vs : List V) (us : List Value), NRs H ds vs → Vals vs us → KN.NHs h ds us
  | [], _, _, e, r => by cases (show _ = _ from e); cases r; rfl
  | d :: ds, _, _, ⟨v, t, e, h1, h2⟩, r => by
    subst e
    cases r with
    | cons r1 r2 => exact ⟨_, _, rfl, nh_of ok d v _ h1 r1, nhs_of ok ds t _ h2 r2⟩
end
theorem isKB_is {d : PyData} (h : isKB d = true) : KN.isK d := by
  cases d with
  | tuple ds =>
    simp only [isKB, Bool.and_eq_true, decide_eq_true_eq] at h
    exact ⟨⟨ds, rfl⟩, h.1, h.2⟩
  | _ => simp [isKB] at h
theorem isI_is {d : PyData} (h : isI d = true) : ∃ i, d = .int i := by
  cases d with
  | int i => exact ⟨i, rfl⟩
  | _ => simp [isI] at h
theorem isK_eqv {x y : PyData} (hx : KN.isK x) (hy : KN.isK y) : PyData.eqv x y = decide (x = y) := by
  have := KN.kD_eqv x y hx.2.1 hy.2.1
  by_cases q : x = y
  · rw [decide_eq_true q]; exact this.mpr q
  · rw [decide_eq_false q]
    cases z : PyData.eqv x y with
    | true => exact absurd (this.mp z) q
    | false => rfl
theorem at_has {k : PyData} (hk : KN.isK k) : ∀ (xs : List (PyData × Addr × Value)), (∀ x ∈ xs, KN.isK x.1) → (atKey xs k).isSome = hasK (xs.map (·.1)) k
  | [], _ => rfl
  | x :: xs, h => by
    have ih := at_has hk xs fun y hy => h y (List.mem_cons_of_mem _ hy)
    have e := isK_eqv (h x (List.mem_cons_self ..)) hk
    unfold hasK atKey at ih ⊢
    rw [List.map_cons, List.any_cons, e, List.find?_cons]
    by_cases q : x.1 = k
    · simp [q]
    · simp only [q, decide_false, Bool.false_or]
      exact ih
theorem val_has (i : Int) : ∀ is : List Int, (valV (is.map fun i => ((.inl i : Key), V.bl true)) (.inl i)).isSome = hasK (is.map .int) (.int i)
  | [] => rfl
  | j :: is => by
    have ih := val_has i is
    unfold hasK at ih ⊢
    rw [List.map_cons, List.map_cons, List.any_cons]
    by_cases q : j = i
    · rw [valV_pos (by rw [q])]
      simp [PyData.eqv, q]
    · rw [valV_neg (by intro z; exact q (Sum.inl.inj z)), ih]
      simp [PyData.eqv, q]
section
variable {X : Cx} {pins : List (Addr × Obj)} {σ : L2.St} {H : Hp} {s : Shared} {a : Addr} {y : V} {u r : Value} {A : Around} {E : Value → Shared → Prop} {ks : List PyData} {d : PyData} {P : PP}
theorem dictH (I : Inv X pins σ H s) (hd : DR H ks a) (hk : ks.all isKB = true) : ks.length ≤ sizeLine ∧ (a == sysModules) = false ∧ ∃ xs : List (PyData × Addr × Value), xs.map (·.1) = ks ∧ (∀ x ∈ xs, KN.isK x.1 ∧ NR H x.1 (.ref x.2.1)) ∧ s.heap.DictOfH (KN.nestKind X.prog X.w) a xs := by
  rcases hd with ⟨is, e, h⟩ | ⟨n, h⟩
  · have e0 : is = [] := by
      cases is with
      | nil => rfl
      | cons i is => subst e; simp [isKB] at hk
    subst e0 e
    obtain ⟨z, hs, vs, rel, dd⟩ := dk_of I.hok h
    cases rel
    obtain ⟨o, es, ep, h1, h2, h3, h4, h5, h6⟩ := dd
    refine ⟨z, hs, [], rfl, fun x hx => (nomatch hx), o, es, ep, h1, h2, h3, ?_, fun x hx => (nomatch hx), List.nodup_nil⟩
    generalize es.toList = es' at h5
    cases h5
    rfl
  · obtain ⟨z, hs, xs, r1, r2, o, es, ep, h1, h2, h3, h4, h5⟩ := (show ObjOk X.prog X.w H s.heap a (.dN ks) from I.hok a _ h)
    exact ⟨z, hs, xs, r1, r2, o, es, ep, h1, h2, h3, h4, fun x hx => ⟨(r2 x hx).1, nh_of I.hok _ _ _ (r2 x hx).2 rfl⟩, h5⟩
theorem dictI (I : Inv X pins σ H s) (hd : DR H ks a) (hk : ks.all isI = true) : ∃ is : List Int, ks = is.map .int ∧ H a = some (.dK (is.map fun i => (.inl i, .bl true))) := by
  rcases hd with h | ⟨n, h⟩
  · exact h
  · obtain ⟨z, hs, xs, r1, r2, _⟩ := (show ObjOk X.prog X.w H s.heap a (.dN ks) from I.hok a _ h)
    cases xs with
    | nil => exact absurd r1.symm n
    | cons x xs =>
      obtain ⟨ds, e⟩ := (r2 x (List.mem_cons_self ..)).1.1
      subst r1
      rw [List.map_cons, List.all_cons, e] at hk
      simp [isI] at hk
theorem key_ref (I : Inv X pins σ H s) (hk : isKB d = true) (r : Rep P H d y) (ry : RelV y u) : ∃ b, y = .ref b ∧ u = .ref b ∧ NR H d (.ref b) ∧ (KN.nestKind X.prog X.w).is s.heap d b := by
  have k := isKB_is hk
  obtain ⟨⟨ds, rfl⟩, k1, k2⟩ := k
  have nr := nr_of _ _ k1 r
  obtain ⟨b, vs, rfl, _⟩ := r
  cases (show u = .ref b from ry)
  exact ⟨b, rfl, rfl, nr, isKB_is hk, nh_of I.hok _ _ _ nr rfl⟩
theorem n_has (hu : A.units + 64 < cLine) (neg : Bool) (I : Inv X pins σ H s) (hd : DR H ks a) (hk : keyOk ks d = true) (r : Rep P H d y) (ry : RelV y u) {Q : Value → Shared → Prop}
    (h : ∀ s', Inv X pins σ H s' → Q (.bool (if neg then !(hasK ks d) else hasK ks d)) s') : wpAny (model X.prog X.w) A (compareOp (if neg then .NotIn else .In) u (.ref a)) Q E s := by
  unfold keyOk at hk
  rw [Bool.or_eq_true, Bool.and_eq_true, Bool.and_eq_true] at hk
  rcases hk with ⟨h1, h2⟩ | ⟨h1, h2⟩
  · obtain ⟨i, rfl⟩ := isI_is h1
    obtain ⟨is, e, hH⟩ := dictI I hd h2
    cases (show y = .int i from r)
    have g := DGet.k (k := .inl i) hH
    have v := val_has i is
    rw [← e] at v
    rw [← v] at h
    cases neg with
    | true => exact d_notIn (by omega) I g ry h
    | false => exact d_in (by omega) I g ry h
  · obtain ⟨b, rfl, rfl, nr, kis⟩ := key_ref I h1 r ry
    obtain ⟨z, hs, xs, e, hx, dd⟩ := dictH I hd h2
    have v := at_has kis.1 xs fun x hx' => (hx x hx').1
    rw [e] at v
    rw [← v] at h
    have room : (KN.nestKind X.prog X.w).room A.in1 := show A.units + 1 + 8 < cLine by omega
    cases neg with
    | true => exact wpAny_notIn_heap room kis hs dd (h _ (I.tok _))
    | false => exact wpAny_in_heap room kis hs dd (h _ (I.tok _))
theorem n_put (hu : A.units + 64 < cLine) (I : Inv X pins σ H s) (hd : DR H ks a) (hk : keyOk ks d = true) (hn : hasK ks d = false) (hl : ks.length < big) (rp : Rep P H d y) (ry : RelV y u) (rv : RelV (.bl true) r) {Q : Unit → Shared → Prop}
    (h : ∀ (o : OwV) s', DR (upd H a o.ho) (ks ++ [d]) a → Inv X pins σ (upd H a o.ho) s' → Q () s') : wpAny (model X.prog X.w) A (setItem (.ref a) u r) Q E s := by
  have hlz : ks.length < sizeLine := Nat.lt_of_lt_of_le hl big_le
  unfold keyOk at hk
  rw [Bool.or_eq_true, Bool.and_eq_true, Bool.and_eq_true] at hk
  rcases hk with ⟨h1, h2⟩ | ⟨h1, h2⟩
  · obtain ⟨i, rfl⟩ := isI_is h1
    obtain ⟨is, e, hH⟩ := dictI I hd h2
    cases (show y = .int i from rp)
    have v := val_has i is
    rw [← e, hn] at v
    have e2 : putK (is.map fun i => ((.inl i : Key), V.bl true)) (.inl i) (.bl true) = (is ++ [i]).map fun i => ((.inl i : Key), V.bl true) := by
      unfold putK
      rw [valV_any, v]
      simp
    have g := DPut.k (k := .inl i) (v := .bl true) hH (by rw [List.length_map]; rw [e, List.length_map] at hlz; exact hlz)
    rw [e2] at g
    refine d_setItem (by omega) I g ry rv fun s' I' => h (.k _) s' (.inl ⟨is ++ [i], by simp [e], upd_same⟩) I'
  · obtain ⟨b, rfl, rfl, nr, kis⟩ := key_ref I h1 rp ry
    obtain ⟨z, hs, xs, e, hx, dd⟩ := dictH I hd h2
    have v := at_has kis.1 xs fun x hx' => (hx x hx').1
    rw [e, hn] at v
    have vn : atKey xs d = none := by
      cases q : atKey xs d with
      | none => rfl
      | some p => rw [q] at v; cases v
    have room : (KN.nestKind X.prog X.w).room A.in1 := show A.units + 1 + 8 < cLine by omega
    have hz : xs.length ≤ sizeLine := by rw [← e, List.length_map] at z; exact z
    refine wpAny_setItem_heap (hsz := hz) room kis dd fun h' dd' hsb => h (.n (ks ++ [d])) _ (.inr ⟨by simp, upd_same⟩) ?_
    rw [storedH_new vn] at dd'
    obtain ⟨q, es, ep, hq, q2, q3, q4, _, q5⟩ := dd'
    obtain ⟨ow, how⟩ := hd.ow
    have ht : ∀ c ys, H c = some (.tup ys) → upd H a (.dN (ks ++ [d])) c = some (.tup ys) := fun c ys ec => by
      rw [upd_ne]
      · exact ec
      · intro z; subst z; rw [how] at ec; cases ow <;> cases ec
    refine d_write I (by rw [how]; cases ow <;> exact True.intro) hsb ⟨q, hq⟩ ⟨by simp; omega, hs, xs ++ [(d, b, r)], by simp [e], fun x hx' => ?_, q, es, ep, hq, q2, q3, q4, q5⟩
    rcases List.mem_append.mp hx' with m | m
    · exact ⟨(hx x m).1, NR.mono ht _ _ (hx x m).2⟩
    · have : x = (d, b, r) := by simpa using m
      subst this
      exact ⟨kis.1, NR.mono ht _ _ nr⟩
end
end KT
set_option Elab.async false
set_option linter.all false
set_option maxRecDepth 100000
namespace KT
open PySem PySem.Spec PyProof.Rows L2
section
variable {X : Cx} {XO : XOF} {cv : Cfg} {pos : Pos} {H₀ F H : Hp} {ρ : Rho} {σ : L2.St}
/-- what is one's own has changed -/
theorem SR.changeG {i : Nat} {t : Slot} {p : Addr} {o0 o1 : OwV} {O : Own} (g : SR cv H₀ F ρ σ H) (o : SO cv H₀ F ρ σ H O) (hρ : i < ρ.length) (hO : O p = some i) (hp : H p = some o0.ho) (ht : SS cv H₀ O σ[i]? i (upd H p o1.ho) t) :
    SR cv H₀ F (ρ.set i (some t)) σ (upd H p o1.ho) := by
  have hT : ∀ a xs, H a = some (.tup xs) → upd H p o1.ho a = some (.tup xs) := fun a xs e => by
    rw [upd_ne]
    · exact e
    · intro z; subst z; rw [hp] at e; cases o0 <;> cases e
  have hL : ∀ {P : PP}, (∀ z a, P z a → O a = none) → ∀ a ws, Rl P H a ws → Rl P (upd H p o1.ho) a ws := fun {P} hP a ws rl => by
    have hne : ∀ z, P z a → a ≠ p := fun z q y => by have := hP z a q; rw [y, hO] at this; cases this
    rcases rl with ⟨q, e⟩ | ⟨q, u, e⟩
    · exact .inl ⟨q, by rw [upd_ne (hne _ q)]; exact e⟩
    · exact .inr ⟨q, u, by rw [upd_ne (hne _ q)]; exact e⟩
  refine ⟨g.s0, fun b u e => ?_, by simp [g.len], g.ln, O, o.fr, fun a j e => ?_, fun j t' e => ?_⟩
  · rw [upd_ne]
    · exact g.s1 b u e
    · intro z; subst z; rw [o.fr b i hO] at e; cases e
  · by_cases z : a = p
    · subst z; exact ⟨o1, upd_same⟩
    · rw [upd_ne z]; exact o.ls a j e
  · by_cases hij : i = j
    · subst hij
      rw [set_get _ _ _ _ hρ, if_pos rfl] at e
      cases e
      exact ht
    · rw [set_get _ _ _ _ hρ, if_neg hij] at e
      have q := o.sl j t' e
      cases t' with
      | par d => obtain ⟨w, e1, rr⟩ := q; exact ⟨w, e1, Rep.mono hT (hL fun _ _ x => x) d w rr⟩
      | loc d => obtain ⟨w, e1, rr⟩ := q; exact ⟨w, e1, Rep.mono hT (hL fun _ _ x => x.2.1) d w rr⟩
      | own ds =>
        obtain ⟨q1, ws, e1, hq, hqp, rs⟩ := q
        have hne : q1 ≠ p := fun z => by rw [z, hO] at hq; cases hq; exact hij rfl
        exact ⟨q1, ws, e1, hq, by rw [upd_ne hne]; exact hqp, Reps.mono hT (hL fun _ _ x => x.elim) _ _ rs⟩
      | own2 ds =>
        obtain ⟨q1, ws, e1, hq, hqp, rs⟩ := q
        have hne : q1 ≠ p := fun z => by rw [z, hO] at hq; cases hq; exact hij rfl
        exact ⟨q1, ws, e1, hq, by rw [upd_ne hne]; exact hqp, Reps.mono hT (hL fun _ _ x => x.2.1) _ _ rs⟩
      | dct ks =>
        obtain ⟨q1, e1, hq, hd⟩ := q
        have hne : q1 ≠ p := fun z => by rw [z, hO] at hq; cases hq; exact hij rfl
        exact ⟨q1, e1, hq, hd.upd hne⟩
      | ex c =>
        obtain ⟨w, e1, φ, hx, hφ⟩ := q
        have hne : w ≠ p := fun z => by rw [z, hp] at hx; cases o0 <;> cases hx
        exact ⟨w, e1, φ, by rw [upd_ne hne]; exact hx, hφ⟩
/-- a slot is set to a new thing of one's own -/
theorem SR.newOwn {i : Nat} {t : Slot} {p : Addr} {o1 : OwV} (g : SR cv H₀ F ρ σ H) (hi' : Nat.blt i cv.n = true) (hp : H p = none) (ht : ∀ O : Own, O p = some i → SS cv H₀ O (some (some (.ref p))) i (upd H p o1.ho) t) :
    SR cv H₀ F (ρ.set i (some t)) (σ.set i (some (.ref p))) (upd H p o1.ho) := by
  obtain ⟨O, o⟩ := g.ex
  have hi : i < σ.length := by rw [g.ln]; exact Nat.ble_eq.mp hi'
  have hρ : i < ρ.length := by rw [g.len]; exact Nat.ble_eq.mp hi'
  have sm : Same H (upd H p o1.ho) := same_new hp _
  have hO : ∀ a, H a ≠ none → (if a = p then some i else O a) = O a := fun a n => by
    rw [if_neg]
    intro z; subst z; exact n hp
  refine ⟨g.s0, g.s1.trans sm, by simp [g.len], by simp [g.ln], fun a => if a = p then some i else O a, fun a j q => ?_, fun a j q => ?_, fun j t' e => ?_⟩
  · by_cases z : a = p
    · subst z; exact g.s1.free hp
    · rw [if_neg z] at q; exact o.fr a j q
  · by_cases z : a = p
    · subst z; exact ⟨o1, upd_same⟩
    · rw [if_neg z] at q; obtain ⟨vs, q'⟩ := o.ls a j q; exact ⟨vs, sm _ _ q'⟩
  · by_cases hij : i = j
    · subst hij
      rw [set_get _ _ _ _ hρ, if_pos rfl] at e
      cases e
      rw [set_get _ _ _ _ hi, if_pos rfl]
      exact ht _ (if_pos rfl)
    · rw [set_get _ _ _ _ hρ, if_neg hij] at e
      rw [set_get _ _ _ _ hi, if_neg hij]
      have q := o.sl j t' e
      have old : ∀ {P P' : PP}, (∀ z a, H a ≠ none → P z a → P' z a) → ∀ a vs, Rl P H a vs → Rl P' (upd H p o1.ho) a vs := fun {P P'} hP a vs r => by
        rcases r with ⟨p, e⟩ | ⟨p, u, e⟩
        · exact .inl ⟨hP _ _ (hp_ne e) p, sm _ _ e⟩
        · exact .inr ⟨hP _ _ (hp_ne e) p, u, sm _ _ e⟩
      cases t' with
      | par d => obtain ⟨w, e, r⟩ := q; exact ⟨w, e, Rep.mono (fun a vs e => sm _ _ e) (old fun z a n p => (hO a n).trans p) d w r⟩
      | loc d => obtain ⟨w, e, r⟩ := q; exact ⟨w, e, Rep.mono (fun a vs e => sm _ _ e) (old fun z a n p => ⟨p.1, (hO a n).trans p.2.1, p.2.2⟩) d w r⟩
      | own ds =>
        obtain ⟨p, vs, e, q, h, rs⟩ := q
        exact ⟨p, vs, e, (hO p (hp_ne h)).trans q, sm _ _ h, rs.same sm⟩
      | own2 ds =>
        obtain ⟨p, vs, e, q, h, rs⟩ := q
        exact ⟨p, vs, e, (hO p (hp_ne h)).trans q, sm _ _ h, Reps.mono (fun a vs e => sm _ _ e) (old fun z a n p => ⟨p.1, (hO a n).trans p.2.1, p.2.2⟩) ds vs rs⟩
      | dct ks =>
        obtain ⟨a, e, q, h⟩ := q
        obtain ⟨_, hw⟩ := h.ow
        exact ⟨a, e, (hO a (hp_ne hw)).trans q, h.same sm⟩
      | ex c => obtain ⟨a, e, x⟩ := q; exact ⟨a, e, x.same sm⟩
/-! ### x = {} -/
theorem s_dnew (i : Nat) {x : Str} {pos' dpos : Pos} (hN : X.N.Nodup) (hi : X.N[i]? = some x := by rfl) (hx : Loc X.env.scope x := by first | exact Or.inl rfl | exact Or.inr rfl)
    (hs : swapsWith (.Dict [] [] dpos) (some (.Name x pos')) pos.line X.env = pure false := by rfl) (hf : X.fn x = true ∨ X.env.scope.names.lookup x = some .local := by first | exact .inl rfl | exact .inr rfl | assumption)
    (hin : Nat.blt i cv.n = true := by rfl) : PS X (.Assign [.Name x pos'] (.Dict [] [] dpos) pos) (tS cv XO (sDnew i)) := by
  intro pins s σ H D I ⟨H₀, F, ρ, r, g, e', k⟩
  refine ps_set hN hi hx pe_dnewK hs hf pins s σ H D I ?_
  cases e'
  exact fun p hp => k _ _ (g.newOwn (o1 := .k []) hin hp fun O hO => ⟨p, rfl, hO, .inl ⟨[], rfl, upd_same⟩⟩)
/-! ### x[e] = True -/
theorem s_dput (i : Nat) {x : Str} {xp pos' cp : Pos} {e : Expr} {f : FE} {j : Nat} (C : BC X) (h : PE X e (tF ⟨cv.cv, XO⟩ f)) (hN : X.N[i]? = some x := by rfl) (hv : Vis X.env.scope x := by first | exact Or.inl rfl | exact Or.inr (Or.inl rfl) | exact Or.inr (Or.inr rfl))
    (hd : (x == ("__debug__" : Str)) = false := by decide) (hcd : (x == ("__classdict__" : Str)) = false := by decide)
    (hs : swapsWith (.Constant (.bool true) j cp) (some (.Subscript (.Name x xp) e pos')) pos.line X.env = pure false := by rfl) :
    PS X (.Assign [.Subscript (.Name x xp) e pos'] (.Constant (.bool true) j cp) pos) (tS cv XO (sDput i f)) := by
  intro pins s σ H D I ⟨H₀, F, ρ, r, g, e', k⟩
  unfold sDput at e'
  split at e'
  · rename_i ks hρ
    obtain ⟨O, o⟩ := g.ex
    obtain ⟨p, hσ, hO, hD⟩ := o.sl i _ hρ
    have q := tS_bind (Q := fun v H1 => ∀ (s' : Shared) (u r : Value), Inv X pins σ H1 s' → RelV v u → RelV (.bl true) r → wpAny (model X.prog X.w) X.A (setItem (.ref p) u r) (fun _ => SP X pins D .next) X.xe s') g e' k fun l d v H1 s1 r1 e1 => by
      split at e1
      · rename_i hc
        cases e1
        rw [Bool.and_eq_true, Bool.and_eq_true] at hc
        obtain ⟨⟨c1, c2⟩, c3⟩ := hc
        intro s' u r I' ru rr
        have o1 : SO cv H₀ F ρ σ H1 O := ⟨o.fr, fun a i e => let ⟨vs, q⟩ := o.ls a i e; ⟨vs, s1 _ _ q⟩, fun i t e => (o.sl i t e).same s1⟩
        obtain ⟨ow, how⟩ := (hD.same s1).ow
        refine n_put C.hu I' (hD.same s1) c1 (by simpa using c2) (of_decide_eq_true c3) r1 ru rr fun o' s2 dr I2 => ?_
        exact ⟨σ, _, I2, k _ _ ((g.same s1).changeG o1 (List.getElem?_eq_some_iff.mp hρ).1 hO how ⟨p, hσ, hO, dr⟩)⟩
      · cases e1
    refine wpAny_Assign_Subscript (thn (pe_bl pins s σ H (fun v H1 => v = .bl true ∧ H1 = H) I ⟨rfl, rfl⟩) fun rv s1 ⟨v, H1, I1, rrv, ev, eH⟩ => ?_) hs
    subst ev eH
    refine thn (pe_var (i := i) hN hv hd hcd pins s1 σ H1 (fun v H2 => v = .ref p ∧ H2 = H1) I1 ⟨_, hσ, rfl, rfl⟩) fun u s2 ⟨x, H2, I2, rx, ex, eH⟩ => ?_
    subst ex eH
    obtain rfl : u = Value.ref p := rx
    exact thn (h pins s2 σ H2 _ I2 q) fun iv s3 ⟨y, H3, I3, ry, q3⟩ => q3 s3 iv rv I3 ry rrv
  · cases e'
end
section
variable {X : Cx} {XO : XOT} {pos : Pos}
def rHas (neg : Bool) : R2 := fun y x H Q => ∃ (ks : List PyData) (d : PyData) (a : Addr) (P : PP), x = .ref a ∧ DR H ks a ∧ keyOk ks d = true ∧ Rep P H d y ∧ Q (.bl (if neg then !(hasK ks d) else hasK ks d)) H
theorem op_has (C : BC X) (neg : Bool) : OpR X (compareOp (if neg then .NotIn else .In)) (rHas neg) := by
  intro pins s σ H x y v u Q I rx ry h
  obtain ⟨ks, d, a, P, rfl, hd, hk, rp, q⟩ := h
  obtain rfl : u = Value.ref a := ry
  exact n_has C.hu neg I hd hk rp rx fun s' I' => ⟨.bl _, _, I', rfl, q⟩
theorem has_read {fa : FE} {neg : Bool} {i : Nat} {σ : L2.St} {H : Hp} {Q : VK} (h : tF XO (eHas neg fa i) σ H Q) : tOp (rHas neg) (tF XO fa) (tVar i) σ H Q := by
  obtain ⟨H₀, Hs, ρ, rr, g, e, kk⟩ := h
  refine tF_bind g e kk fun l x v H1 s1 g1 r1 e1 k1 => ?_
  split at e1
  · rename_i ks hρ
    split at e1
    · rename_i hk
      obtain ⟨a, hσ, hD⟩ := g1.vr i _ hρ
      exact ⟨.ref a, hσ, ks, x, a, _, rfl, hD, hk, r1, k1.give e1 (Same.refl _) rfl⟩
    · cases e1
  · cases e1
end
end KT
namespace KT
open PySem PySem.Spec PyProof.Rows L2
section
variable {X : Cx} {XO : XOT} {pos : Pos}
theorem u_hasIn (C : BC X) {a : Expr} {fa : FE} (i : Nat) {x : Str} {xp : Pos} (ha : PE X a (tF XO fa)) (hN : X.N[i]? = some x := by rfl) (hv : Vis X.env.scope x := by first | exact Or.inl rfl | exact Or.inr (Or.inl rfl) | exact Or.inr (Or.inr rfl))
    (hd : (x == ("__debug__" : Str)) = false := by decide) (hcd : (x == ("__classdict__" : Str)) = false := by decide) : PT X (.Compare a [.In] [.Name x xp] pos) (tTest (tF XO (eHas false fa i))) :=
  PT.imp (pt_cmpR (op_has C false) ha (pe_var (i := i) hN hv hd hcd) rfl) fun _ _ _ h => has_read h
theorem u_hasNot (C : BC X) {a : Expr} {fa : FE} (i : Nat) {x : Str} {xp : Pos} (ha : PE X a (tF XO fa)) (hN : X.N[i]? = some x := by rfl) (hv : Vis X.env.scope x := by first | exact Or.inl rfl | exact Or.inr (Or.inl rfl) | exact Or.inr (Or.inr rfl))
    (hd : (x == ("__debug__" : Str)) = false := by decide) (hcd : (x == ("__classdict__" : Str)) = false := by decide) : PT X (.Compare a [.NotIn] [.Name x xp] pos) (tTest (tF XO (eHas true fa i))) :=
  PT.imp (pt_cmpR (op_has C true) ha (pe_var (i := i) hN hv hd hcd) rfl) fun _ _ _ h => has_read h
end
end KT
set_option Elab.async false
set_option linter.all false
set_option maxRecDepth 100000
namespace KT
open PySem
def A_forth_here : Nat := 124
def A_back_here : Nat := 131
def b_crossed : FS := (sRet (eTup [(eIx (eIx (eVar 0) (eC (.int 1))) (eC (.int 0))), (eTup [(eIx (eVar 0) (eC (.int 0))), (eIx (eIx (eVar 0) (eC (.int 1))) (eC (.int 1)))])]))
def m_crossed : Nat → FC
  | 0 => fun _ => none
  | n + 1 => runB 1 (b_crossed)
def b_grouped_pair : FS := (sRet (eTup [(eIx (eIx (eVar 0) (eC (.int 0))) (eC (.int 0))), (eTup [(eIx (eIx (eVar 0) (eC (.int 0))) (eC (.int 1))), (eIx (eVar 0) (eC (.int 1)))])]))
def m_grouped_pair : Nat → FC
  | 0 => fun _ => none
  | n + 1 => runB 1 (b_grouped_pair)
def b_grouped_side : FS := (sSeq (sIf (eEq (eIx (eVar 0) (eC (.int 0))) (eC (.str "right"))) (sRet (eTup [(eC (.str "right")), (eVar 0)])) sNext) (sSeq (sSet 1 (eIx (eVar 0) (eC (.int 1)))) (sRet (eIf (eEq (eIx (eVar 1) (eC (.int 0))) (eC (.str "left"))) (eVar 1) (eTup [(eC (.str "right")), (eTup [(eC (.str "left")), (eIx (eVar 1) (eC (.int 1)))])])))))
def m_grouped_side : Nat → FC
  | 0 => fun _ => none
  | n + 1 => runB 2 (b_grouped_side)
def b_swapped : FS := (sSeq (sIf (eVar 0) (sRet (eTup [(eIx (eVar 1) (eC (.int 1))), (eIx (eVar 1) (eC (.int 0)))])) sNext) (sRet (eTup [(eIf (eEq (eIx (eVar 1) (eC (.int 0))) (eC (.str "left"))) (eC (.str "right")) (eC (.str "left"))), (eIx (eVar 1) (eC (.int 1)))])))
def m_swapped : Nat → FC
  | 0 => fun _ => none
  | n + 1 => runB 2 (b_swapped)
def b_forth_here (g_crossed : FC) (g_grouped_pair : FC) (g_grouped_side : FC) (g_swapped : FC) : FS := (sSeq (sSet 3 (eEq (eIx (eVar 1) (eC (.int 0))) (eC (.str "both")))) (sSeq (sIf (eEq (eVar 0) (eC (.str "swap"))) (sRet (eCall g_swapped [(eVar 3), (eVar 2)])) sNext) (sSeq (sIf (eEq (eVar 0) (eC (.str "group"))) (sRet (eIf (eVar 3) (eCall g_grouped_pair [(eVar 2)]) (eCall g_grouped_side [(eVar 2)]))) sNext) (sSeq (sIf (eEq (eVar 0) (eC (.str "spread"))) (sRet (eCall g_crossed [(eVar 2)])) sNext) (sRet (eIx (eVar 2) (eC (.int 1))))))))
def m_forth_here : Nat → FC
  | 0 => fun _ => none
  | n + 1 => runB 4 (b_forth_here (m_crossed n) (m_grouped_pair n) (m_grouped_side n) (m_swapped n))
def b_ungrouped_pair : FS := (sRet (eTup [(eTup [(eIx (eVar 0) (eC (.int 0))), (eIx (eIx (eVar 0) (eC (.int 1))) (eC (.int 0)))]), (eIx (eIx (eVar 0) (eC (.int 1))) (eC (.int 1)))]))
def m_ungrouped_pair : Nat → FC
  | 0 => fun _ => none
  | n + 1 => runB 1 (b_ungrouped_pair)
def b_ungrouped_side : FS := (sSeq (sIf (eEq (eIx (eVar 0) (eC (.int 0))) (eC (.str "left"))) (sRet (eTup [(eC (.str "left")), (eVar 0)])) sNext) (sSeq (sSet 1 (eIx (eVar 0) (eC (.int 1)))) (sRet (eIf (eEq (eIx (eVar 1) (eC (.int 0))) (eC (.str "right"))) (eVar 1) (eTup [(eC (.str "left")), (eTup [(eC (.str "right")), (eIx (eVar 1) (eC (.int 1)))])])))))
def m_ungrouped_side : Nat → FC
  | 0 => fun _ => none
  | n + 1 => runB 2 (b_ungrouped_side)
def b_back_here (g_crossed : FC) (g_ungrouped_pair : FC) (g_ungrouped_side : FC) (g_swapped : FC) : FS := (sSeq (sSet 3 (eEq (eIx (eVar 1) (eC (.int 0))) (eC (.str "both")))) (sSeq (sIf (eEq (eVar 0) (eC (.str "swap"))) (sRet (eCall g_swapped [(eVar 3), (eVar 2)])) sNext) (sSeq (sIf (eEq (eVar 0) (eC (.str "group"))) (sRet (eIf (eVar 3) (eCall g_ungrouped_pair [(eVar 2)]) (eCall g_ungrouped_side [(eVar 2)]))) sNext) (sSeq (sIf (eEq (eVar 0) (eC (.str "spread"))) (sRet (eCall g_crossed [(eVar 2)])) sNext) (sRet (eIf (eVar 3) (eTup [(eTup []), (eVar 2)]) (eTup [(eC (.str "right")), (eVar 2)])))))))
def m_back_here : Nat → FC
  | 0 => fun _ => none
  | n + 1 => runB 4 (b_back_here (m_crossed n) (m_ungrouped_pair n) (m_ungrouped_side n) (m_swapped n))
def b_things_along : FS := (sSeq (sSet 3 (eLst [(eVar 2)])) (sSeq (sSet 4 (eVar 2)) (sSeq (sForET 1 (tgPair 5 6) (sSeq (sIf (eEq (eIx (eIx (eVar 0) (eVar 5)) (eC (.int 0))) (eC (.str "both"))) (sSet 4 (eIx (eVar 4) (eVar 6))) (sIf (eEq (eIx (eVar 4) (eC (.int 0))) (eIx (eC (.tuple [.str "left", .str "right"])) (eVar 6))) (sSet 4 (eIx (eVar 4) (eC (.int 1)))) (sRet (eVar 3)))) (sAppend 3 (eVar 4)))) (sRet (eVar 3)))))
def m_things_along : Nat → FC
  | 0 => fun _ => none
  | n + 1 => runB 7 (b_things_along)
def b_thing_by (g_forth_here : FC) (g_back_here : FC) (g_things_along : FC) : FS := (sSeq (sSet 4 (eIx (eVar 1) (eC (.int 1)))) (sSeq (sSet 5 (eCall g_things_along [(eVar 0), (eVar 4), (eVar 2)])) (sSeq (sIf (eLt (eLen (eVar 5)) (eLen (eVar 0))) (sRet (eVar 2)) sNext) (sSeq (sSet 6 (eCallV 3 [(A_forth_here, g_forth_here), (A_back_here, g_back_here)] [(eIx (eVar 1) (eC (.int 0))), (eIx (eVar 0) (eNeg (eC (.int 1)))), (eIx (eVar 5) (eNeg (eC (.int 1))))])) (sSeq (sFor (iDown (eSub (eLen (eVar 4)) (eC (.int 1)))) (tgName 7) (sSeq (sSet 8 (eIx (eVar 5) (eVar 7))) (sSeq (sSet 9 (eAnd (eEq (eIx (eIx (eVar 0) (eVar 7)) (eC (.int 0))) (eC (.str "both"))) (eEq (eIx (eVar 4) (eVar 7)) (eC (.int 0))))) (sSet 6 (eIf (eVar 9) (eTup [(eVar 6), (eIx (eVar 8) (eC (.int 1)))]) (eTup [(eIx (eVar 8) (eC (.int 0))), (eVar 6)])))))) (sRet (eVar 6)))))))
def m_thing_by : Nat → FC
  | 0 => fun _ => none
  | n + 1 => runB 10 (b_thing_by (m_forth_here n) (m_back_here n) (m_things_along n))
def b_goes : FS := (sSeq (sSet 2 (eIx (eVar 1) (eC (.int 0)))) (sSeq (sIf (eNotIn (eVar 2) (eTup [(eC (.str "either")), (eC (.str "both"))])) (sRet (eC (.bool false))) sNext) (sSeq (sSet 3 (eIx (eIx (eVar 1) (eC (.int 1))) (eC (.int 0)))) (sSeq (sIf (eEq (eVar 0) (eC (.str "swap"))) (sRet (eC (.bool true))) sNext) (sSeq (sIf (eEq (eVar 0) (eC (.str "group"))) (sRet (eEq (eVar 3) (eVar 2))) sNext) (sSeq (sIf (eEq (eVar 0) (eC (.str "spread"))) (sRet (eAnd (eEq (eVar 2) (eC (.str "both"))) (eEq (eIx (eIx (eVar 1) (eC (.int 2))) (eC (.int 0))) (eC (.str "either"))))) sNext) (sRet (eAnd (eEq (eVar 0) (eC (.str "drop"))) (eOr (eEq (eVar 3) (eC (.str "none"))) (eAnd (eEq (eVar 2) (eC (.str "both"))) (eEq (eVar 3) (eC (.str "one")))))))))))))
def m_goes : Nat → FC
  | 0 => fun _ => none
  | n + 1 => runB 4 (b_goes)
def b_parts_along : FS := (sSeq (sSet 2 (eLst [(eVar 0)])) (sSeq (sSet 3 (eVar 0)) (sSeq (sForV 1 (tgName 4) (sSeq (sIf (eOr (eNotIn (eIx (eVar 3) (eC (.int 0))) (eTup [(eC (.str "either")), (eC (.str "both"))])) (eNotIn (eVar 4) (eTup [(eC (.int 0)), (eC (.int 1))]))) (sRaise 2) sNext) (sSeq (sSet 3 (eIx (eVar 3) (eAdd (eC (.int 1)) (eVar 4)))) (sAppend 2 (eVar 3))))) (sRet (eVar 2)))))
def m_parts_along : Nat → FC
  | 0 => fun _ => none
  | n + 1 => runB 5 (b_parts_along)
def b_parts_to_turn (g_goes : FC) (g_parts_along : FC) : FS := (sSeq (sSet 2 (eCall g_parts_along [(eVar 0), (eIx (eVar 1) (eC (.int 1)))])) (sSeq (sIf (eNot (eCall g_goes [(eIx (eVar 1) (eC (.int 0))), (eIx (eVar 2) (eNeg (eC (.int 1))))])) (sRaise 2) sNext) (sRet (eVar 2))))
def m_parts_to_turn : Nat → FC
  | 0 => fun _ => none
  | n + 1 => runB 3 (b_parts_to_turn (m_goes n) (m_parts_along n))
def b_forth (g_thing_by : FC) (g_parts_to_turn : FC) : FS := (sRet (eCall g_thing_by [(eCall g_parts_to_turn [(eVar 0), (eVar 1)]), (eVar 1), (eVar 2), (eC (fnD A_forth_here))]))
def m_forth : Nat → FC
  | 0 => fun _ => none
  | n + 1 => runB 3 (b_forth (m_thing_by n) (m_parts_to_turn n))
def b_back (g_thing_by : FC) (g_parts_to_turn : FC) : FS := (sRet (eCall g_thing_by [(eCall g_parts_to_turn [(eVar 0), (eVar 1)]), (eVar 1), (eVar 2), (eC (fnD A_back_here))]))
def m_back : Nat → FC
  | 0 => fun _ => none
  | n + 1 => runB 3 (b_back (m_thing_by n) (m_parts_to_turn n))
def b_count (g_count : FC) : FS := (sSeq (sSet 2 (eIx (eVar 0) (eC (.int 0)))) (sSeq (sIf (eEq (eVar 2) (eC (.str "none"))) (sRet (eC (.int 0))) sNext) (sSeq (sIf (eEq (eVar 2) (eC (.str "one"))) (sRet (eC (.int 1))) sNext) (sSeq (sIf (eEq (eVar 2) (eC (.str "name"))) (sRet (eIx (eVar 1) (eIx (eVar 0) (eC (.int 1))))) sNext) (sSeq (sSet 3 (eCall g_count [(eIx (eVar 0) (eC (.int 1))), (eVar 1)])) (sSeq (sSet 4 (eCall g_count [(eIx (eVar 0) (eC (.int 2))), (eVar 1)])) (sRet (eIf (eEq (eVar 2) (eC (.str "either"))) (eAdd (eVar 3) (eVar 4)) (eMul (eVar 3) (eVar 4))))))))))
def m_count : Nat → FC
  | 0 => fun _ => none
  | n + 1 => runB 5 (b_count (m_count n))
def b_law_things (g_law_things : FC) : FS := (sSeq (sIf (eEq (eLen (eVar 0)) (eC (.int 1))) (sRet (eMul (eLst [(eTup [])]) (eInt (eEq (eIx (eVar 0) (eC (.int 0))) (eC (.str "one")))))) sNext) (sSeq (sIf (eEq (eLen (eVar 0)) (eC (.int 2))) (sRet (eListRng (eIx (eVar 1) (eIx (eVar 0) (eC (.int 1)))))) sNext) (sSeq (sSet 2 (eCall g_law_things [(eIx (eVar 0) (eC (.int 1))), (eVar 1)])) (sSeq (sSet 3 (eCall g_law_things [(eIx (eVar 0) (eC (.int 2))), (eVar 1)])) (sSeq (sSet 4 (eLst [])) (sSeq (sIf (eEq (eIx (eVar 0) (eC (.int 0))) (eC (.str "either"))) (sSeq (sExtend 4 (eComp (iSeq (eVar 2)) [] (eTup [(eC (.str "left")), (eVar 0)]))) (sSeq (sExtend 4 (eComp (iSeq (eVar 3)) [] (eTup [(eC (.str "right")), (eVar 0)]))) (sRet (eVar 4)))) sNext) (sSeq (sForV 2 (tgName 5) (sExtend 4 (eComp (iSeq (eVar 3)) [5] (eTup [(eVar 1), (eVar 0)])))) (sRet (eVar 4)))))))))
def m_law_things : Nat → FC
  | 0 => fun _ => none
  | n + 1 => runB 6 (b_law_things (m_law_things n))
def b_kind_here : FS := (sSeq (sSet 2 (eIx (eVar 1) (eC (.int 0)))) (sSeq (sSet 3 (eIx (eVar 1) (eC (.int 1)))) (sSeq (sSet 4 (eIx (eVar 1) (eC (.int 2)))) (sSeq (sIf (eEq (eVar 0) (eC (.str "swap"))) (sRet (eTup [(eVar 2), (eVar 4), (eVar 3)])) sNext) (sSeq (sIf (eEq (eVar 0) (eC (.str "group"))) (sRet (eTup [(eVar 2), (eIx (eVar 3) (eC (.int 1))), (eTup [(eVar 2), (eIx (eVar 3) (eC (.int 2))), (eVar 4)])])) sNext) (sSeq (sIf (eEq (eVar 0) (eC (.str "spread"))) (sRet (eTup [(eC (.str "either")), (eTup [(eC (.str "both")), (eVar 3), (eIx (eVar 4) (eC (.int 1)))]), (eTup [(eC (.str "both")), (eVar 3), (eIx (eVar 4) (eC (.int 2)))])])) sNext) (sRet (eIf (eAnd (eEq (eVar 2) (eC (.str "both"))) (eEq (eIx (eVar 3) (eC (.int 0))) (eC (.str "none")))) (eVar 3) (eVar 4)))))))))
def m_kind_here : Nat → FC
  | 0 => fun _ => none
  | n + 1 => runB 5 (b_kind_here)
def b_kind_by (g_kind_here : FC) : FS := (sSeq (sSet 2 (eIx (eVar 1) (eC (.int 1)))) (sSeq (sSet 3 (eCall g_kind_here [(eIx (eVar 1) (eC (.int 0))), (eIx (eVar 0) (eNeg (eC (.int 1))))])) (sSeq (sFor (iDown (eSub (eLen (eVar 2)) (eC (.int 1)))) (tgName 4) (sSeq (sSet 5 (eIx (eVar 0) (eVar 4))) (sSet 3 (eIf (eEq (eIx (eVar 2) (eVar 4)) (eC (.int 0))) (eTup [(eIx (eVar 5) (eC (.int 0))), (eVar 3), (eIx (eVar 5) (eC (.int 2)))]) (eTup [(eIx (eVar 5) (eC (.int 0))), (eIx (eVar 5) (eC (.int 1))), (eVar 3)]))))) (sRet (eVar 3)))))
def m_kind_by : Nat → FC
  | 0 => fun _ => none
  | n + 1 => runB 6 (b_kind_by (m_kind_here n))
def b_turned (g_kind_by : FC) (g_parts_to_turn : FC) : FS := (sRet (eCall g_kind_by [(eCall g_parts_to_turn [(eVar 0), (eVar 1)]), (eVar 1)]))
def m_turned : Nat → FC
  | 0 => fun _ => none
  | n + 1 => runB 2 (b_turned (m_kind_by n) (m_parts_to_turn n))
def b_law_here : FS := (sSeq (sIf (eLt (eLen (eVar 0)) (eC (.int 3))) (sRet (eC .none)) sNext) (sSeq (sSet 2 (eIx (eVar 0) (eC (.int 1)))) (sSeq (sSet 3 (eIx (eVar 0) (eC (.int 2)))) (sSeq (sIf (eEq (eVar 1) (eC (.str "swap"))) (sRet (eTup [(eIx (eVar 0) (eC (.int 0))), (eVar 3), (eVar 2)])) sNext) (sSeq (sIf (eAnd (eEq (eVar 1) (eC (.str "group"))) (eEq (eIx (eVar 2) (eC (.int 0))) (eIx (eVar 0) (eC (.int 0))))) (sRet (eTup [(eIx (eVar 0) (eC (.int 0))), (eIx (eVar 2) (eC (.int 1))), (eTup [(eIx (eVar 0) (eC (.int 0))), (eIx (eVar 2) (eC (.int 2))), (eVar 3)])])) sNext) (sSeq (sIf (eAnd (eEq (eVar 1) (eC (.str "spread"))) (eAnd (eEq (eIx (eVar 0) (eC (.int 0))) (eC (.str "both"))) (eEq (eIx (eVar 3) (eC (.int 0))) (eC (.str "either"))))) (sRet (eTup [(eC (.str "either")), (eTup [(eC (.str "both")), (eVar 2), (eIx (eVar 3) (eC (.int 1)))]), (eTup [(eC (.str "both")), (eVar 2), (eIx (eVar 3) (eC (.int 2)))])])) sNext) (sSeq (sIf (eAnd (eEq (eVar 1) (eC (.str "drop"))) (eAnd (eEq (eIx (eVar 0) (eC (.int 0))) (eC (.str "both"))) (eEq (eIx (eVar 2) (eC (.int 0))) (eC (.str "none"))))) (sRet (eTup [(eC (.str "none"))])) sNext) (sSeq (sIf (eAnd (eEq (eVar 1) (eC (.str "drop"))) (eIn (eTup [(eIx (eVar 0) (eC (.int 0))), (eIx (eVar 2) (eC (.int 0)))]) (eTup [(eTup [(eC (.str "both")), (eC (.str "one"))]), (eTup [(eC (.str "either")), (eC (.str "none"))])]))) (sRet (eVar 3)) sNext) (sRet (eC .none))))))))))
def m_law_here : Nat → FC
  | 0 => fun _ => none
  | n + 1 => runB 4 (b_law_here)
def b_law_part : FS := (sSeq (sForV 1 (tgName 2) (sSet 0 (eIx (eVar 0) (eAdd (eC (.int 1)) (eVar 2))))) (sRet (eVar 0)))
def m_law_part : Nat → FC
  | 0 => fun _ => none
  | n + 1 => runB 3 (b_law_part)
def b_law_paths (g_law_part : FC) : FS := (sSeq (sSet 1 (eLst [])) (sSeq (sSet 2 (eLst [(eTup [])])) (sSeq (sWhile (eNe (eVar 2) (eLst [])) (sSeq (sPop 3 2) (sSeq (sAppend 1 (eVar 3)) (sIf (eEq (eLen (eCall g_law_part [(eVar 0), (eVar 3)])) (eC (.int 3))) (sExtend 2 (eLst [(eAdd (eVar 3) (eTup [(eC (.int 1))])), (eAdd (eVar 3) (eTup [(eC (.int 0))]))])) sNext)))) (sRet (eVar 1)))))
def m_law_paths : Nat → FC
  | 0 => fun _ => none
  | n + 1 => runB 4 (b_law_paths (m_law_part n))
def b_law_all_turnings (g_law_here : FC) (g_law_part : FC) (g_law_paths : FC) : FS := (sSeq (sSet 1 (eLst [])) (sSeq (sFor (iSeq (eCall g_law_paths [(eVar 0)])) (tgName 2) (sFor (iSeq (eLst [(eC (.str "swap")), (eC (.str "group")), (eC (.str "spread")), (eC (.str "drop"))])) (tgName 3) (sIf (eNotN (eCall g_law_here [(eCall g_law_part [(eVar 0), (eVar 2)]), (eVar 3)]) (eC .none)) (sAppend 1 (eTup [(eVar 3), (eVar 2)])) sNext))) (sRet (eVar 1))))
def m_law_all_turnings : Nat → FC
  | 0 => fun _ => none
  | n + 1 => runB 4 (b_law_all_turnings (m_law_here n) (m_law_part n) (m_law_paths n))
def b_law_count (g_law_count : FC) : FS := (sSeq (sIf (eEq (eLen (eVar 0)) (eC (.int 1))) (sRet (eInt (eEq (eIx (eVar 0) (eC (.int 0))) (eC (.str "one"))))) sNext) (sSeq (sIf (eEq (eLen (eVar 0)) (eC (.int 2))) (sRet (eIx (eVar 1) (eIx (eVar 0) (eC (.int 1))))) sNext) (sSeq (sIf (eEq (eIx (eVar 0) (eC (.int 0))) (eC (.str "either"))) (sRet (eAdd (eCall g_law_count [(eIx (eVar 0) (eC (.int 1))), (eVar 1)]) (eCall g_law_count [(eIx (eVar 0) (eC (.int 2))), (eVar 1)]))) sNext) (sRet (eMul (eCall g_law_count [(eIx (eVar 0) (eC (.int 1))), (eVar 1)]) (eCall g_law_count [(eIx (eVar 0) (eC (.int 2))), (eVar 1)]))))))
def m_law_count : Nat → FC
  | 0 => fun _ => none
  | n + 1 => runB 2 (b_law_count (m_law_count n))
def b_law_draw : FS := (sSeq (sSet 3 (eMod (eAdd (eAdd (eMod (eVar 0) (eC (.int 2147483629))) (eC (.int 1))) (eMul (eVar 1) (eC (.int 1000003)))) (eC (.int 2147483647)))) (sSeq (sSet 3 (eMod (eMul (eMod (eMul (eVar 3) (eVar 3)) (eC (.int 2147483647))) (eC (.int 48271))) (eC (.int 2147483629)))) (sSeq (sSet 3 (eMod (eMul (eMod (eMul (eVar 3) (eVar 3)) (eC (.int 2147483629))) (eC (.int 40692))) (eC (.int 2147483399)))) (sRet (eMod (eDiv (eVar 3) (eC (.int 97))) (eVar 2))))))
def m_law_draw : Nat → FC
  | 0 => fun _ => none
  | n + 1 => runB 4 (b_law_draw)
def b_law_sizes (g_law_draw : FC) : FS := (sRet (eTuple (eComp (iR1 (eC (.int 4))) [0, 1] (eCall g_law_draw [(eVar 1), (eAdd (eC (.int 900)) (eVar 0)), (eAdd (eVar 2) (eC (.int 1)))]))))
def m_law_sizes : Nat → FC
  | 0 => fun _ => none
  | n + 1 => runB 2 (b_law_sizes (m_law_draw n))
def b_law_stir : FS := (sSeq (sSet 1 (eC (.int 0))) (sSeq (sFor (iSeq (eLst [(eC (.int 48271)), (eC (.int 69621)), (eC (.int 39373)), (eC (.int 44488))])) (tgName 2) (sSeq (sSet 3 (eMod (eAdd (eMul (eVar 0) (eVar 2)) (eC (.int 7919))) (eC (.int 2147483647)))) (sSeq (sSet 3 (eMod (eMul (eMod (eMul (eVar 3) (eVar 3)) (eC (.int 2147483647))) (eC (.int 40692))) (eC (.int 2147483399)))) (sSet 1 (eAdd (eMul (eVar 1) (ePow (eC (.int 10)) (eC (.int 9)))) (eDiv (eVar 3) (eC (.int 7)))))))) (sRet (eVar 1))))
def m_law_stir : Nat → FC
  | 0 => fun _ => none
  | n + 1 => runB 4 (b_law_stir)
def b_law_cell (g_law_stir : FC) : FS := (sSeq (sIf (eLt (eVar 1) (eLen (eVar 0))) (sRet (eCall g_law_stir [(eIx (eVar 0) (eVar 1))])) sNext) (sRet (eCall g_law_stir [(eC (.int 0))])))
def m_law_cell : Nat → FC
  | 0 => fun _ => none
  | n + 1 => runB 2 (b_law_cell (m_law_stir n))
def b_law_kind (g_law_kind : FC) (g_law_draw : FC) : FS := (sSeq (sIf (eLt (eVar 1) (eC (.int 2))) (sSeq (sSet 3 (eCall g_law_draw [(eVar 0), (eMul (eC (.int 5)) (eVar 2)), (eC (.int 12))])) (sSeq (sIf (eEq (eVar 3) (eC (.int 0))) (sRet (eTup [(eC (.str "none"))])) sNext) (sSeq (sIf (eLt (eVar 3) (eC (.int 3))) (sRet (eTup [(eC (.str "one"))])) sNext) (sRet (eTup [(eC (.str "name")), (eMod (eVar 3) (eC (.int 4)))]))))) sNext) (sSeq (sSet 4 (eAdd (eC (.int 1)) (eCall g_law_draw [(eVar 0), (eAdd (eMul (eC (.int 5)) (eVar 2)) (eC (.int 1))), (eSub (eVar 1) (eC (.int 1)))]))) (sSeq (sSet 5 (eIx (eLst [(eC (.str "either")), (eC (.str "both"))]) (eCall g_law_draw [(eVar 0), (eAdd (eMul (eC (.int 5)) (eVar 2)) (eC (.int 2))), (eC (.int 2))]))) (sRet (eTup [(eVar 5), (eCall g_law_kind [(eVar 0), (eVar 4), (eMul (eC (.int 2)) (eVar 2))]), (eCall g_law_kind [(eVar 0), (eSub (eVar 1) (eVar 4)), (eAdd (eMul (eC (.int 2)) (eVar 2)) (eC (.int 1)))])])))))
def m_law_kind : Nat → FC
  | 0 => fun _ => none
  | n + 1 => runB 6 (b_law_kind (m_law_kind n) (m_law_draw n))
def b_law (g_forth : FC) (g_back : FC) (g_count : FC) (g_law_things : FC) (g_turned : FC) (g_law_all_turnings : FC) (g_law_count : FC) (g_law_sizes : FC) (g_law_cell : FC) (g_law_kind : FC) : FS := (sSeq (sSet 1 (eCall g_law_kind [(eCall g_law_cell [(eVar 0), (eC (.int 0))]), (eAdd (eC (.int 1)) (eMod (eCall g_law_cell [(eVar 0), (eC (.int 1))]) (eC (.int 5)))), (eC (.int 1))])) (sSeq (sSet 2 (eCall g_law_sizes [(eCall g_law_cell [(eVar 0), (eC (.int 2))]), (eC (.int 3))])) (sSeq (sIf (eGt (eCall g_law_count [(eVar 1), (eVar 2)]) (eC (.int 60))) (sSet 2 (eCall g_law_sizes [(eCall g_law_cell [(eVar 0), (eC (.int 2))]), (eC (.int 1))])) sNext) (sSeq (sSet 3 (eCall g_law_things [(eVar 1), (eVar 2)])) (sSeq (sFor (iSeq (eSl (eCall g_law_all_turnings [(eVar 1)]) oNone (oSome (eC (.int 6))))) (tgName 4) (sSeq (sSet 5 (eCall g_turned [(eVar 1), (eVar 4)])) (sSeq (sSet 6 (eCall g_law_things [(eVar 5), (eVar 2)])) (sSeq (sIf (eOr (eNe (eCall g_count [(eVar 5), (eVar 2)]) (eLen (eVar 3))) (eNe (eLen (eVar 6)) (eLen (eVar 3)))) (sRet (eC (.bool false))) sNext) (sSeq (sDnew 7) (sSeq (sForV 3 (tgName 8) (sSeq (sSet 9 (eCall g_forth [(eVar 1), (eVar 4), (eVar 8)])) (sSeq (sIf (eOr (eHas false (eVar 9) 7) (eNe (eCall g_back [(eVar 1), (eVar 4), (eVar 9)]) (eVar 8))) (sRet (eC (.bool false))) sNext) (sDput 7 (eVar 9))))) (sForV 6 (tgName 8) (sSeq (sSet 10 (eCall g_back [(eVar 1), (eVar 4), (eVar 8)])) (sIf (eOr (eHas true (eVar 8) 7) (eNe (eCall g_forth [(eVar 1), (eVar 4), (eVar 10)]) (eVar 8))) (sRet (eC (.bool false))) sNext))))))))) (sRet (eC (.bool true))))))))
def m_law : Nat → FC
  | 0 => fun _ => none
  | n + 1 => runB 11 (b_law (m_forth n) (m_back n) (m_count n) (m_law_things n) (m_turned n) (m_law_all_turnings n) (m_law_count n) (m_law_sizes n) (m_law_cell n) (m_law_kind n))

end KT
set_option Elab.async false
set_option linter.all false
set_option maxRecDepth 100000
namespace KT
open PySem PySem.Spec PyProof.Rows L2
set_option maxHeartbeats 0
seal L2.PS L2.PSs L2.PE L2.PT L2.PW L2.PA L2.PI L2.PO
def top (i : Nat) : Stmt := PySem.Challenge.pw_kindturn_k07_whole_one_to_one.main.body.getD i (.Pass ⟨0, 0, 0, 0⟩)
section
variable {P : Program} {w : World} {K : PySem.W.Frag} {mg : Str → Option Value} {base : Heap} {cv : Nat → Value} {n : Nat} {f : Addr} {fd : FuncData}
abbrev st_crossed : Stmt := top 20
theorem sc_crossed : FnScope ["thing"] ["thing"] (defScope st_crossed) := ⟨rfl, rfl, rfl, by decide +kernel, rfl, by decide +kernel, by decide +kernel⟩
theorem ok_crossed (M : MF mg) (F : Fun K "crossed" "crossed" st_crossed f fd) : FnOk P w K mg base (CX1 P w) (n + 1) f fd ["thing"] (spD cv 1 (m_crossed (n + 1))) :=
  fun_okD M F sc_crossed fun cdv A outer s H E B =>
    (b_one (s_ret (x_tup (a_cons (x_at (x_at (x_var 0) x_int) x_int) (a_cons (x_tup (a_cons (x_at (x_var 0) x_int) (a_cons (x_at (x_at (x_var 0) x_int) x_int) a_nil))) a_nil)))))
abbrev st_grouped_pair : Stmt := top 21
theorem sc_grouped_pair : FnScope ["thing"] ["thing"] (defScope st_grouped_pair) := ⟨rfl, rfl, rfl, by decide +kernel, rfl, by decide +kernel, by decide +kernel⟩
theorem ok_grouped_pair (M : MF mg) (F : Fun K "grouped_pair" "grouped_pair" st_grouped_pair f fd) : FnOk P w K mg base (CX1 P w) (n + 1) f fd ["thing"] (spD cv 1 (m_grouped_pair (n + 1))) :=
  fun_okD M F sc_grouped_pair fun cdv A outer s H E B =>
    (b_one (s_ret (x_tup (a_cons (x_at (x_at (x_var 0) x_int) x_int) (a_cons (x_tup (a_cons (x_at (x_at (x_var 0) x_int) x_int) (a_cons (x_at (x_var 0) x_int) a_nil))) a_nil)))))
abbrev st_grouped_side : Stmt := top 23
theorem sc_grouped_side : FnScope ["thing", "inner"] ["thing"] (defScope st_grouped_side) := ⟨rfl, rfl, rfl, by decide +kernel, rfl, by decide +kernel, by decide +kernel⟩
theorem ok_grouped_side (M : MF mg) (F : Fun K "grouped_side" "grouped_side" st_grouped_side f fd) : FnOk P w K mg base (CX1 P w) (n + 1) f fd ["thing"] (spD cv 1 (m_grouped_side (n + 1))) :=
  fun_okD M F sc_grouped_side fun cdv A outer s H E B =>
    (by (refine b_cons (s_if (u_Eq B.C (x_at (x_var 0) x_int) x_str) (b_one (s_ret (x_tup (a_cons x_str (a_cons (x_var 0) a_nil))))) b_nil) ?_); (refine b_cons (s_set 1 B.nd (x_at (x_var 0) x_int)) ?_); exact b_one (s_ret (x_ifx (u_Eq B.C (x_at (x_var 1) x_int) x_str) (x_var 1) (x_tup (a_cons x_str (a_cons (x_tup (a_cons x_str (a_cons (x_at (x_var 1) x_int) a_nil))) a_nil))))))
abbrev st_swapped : Stmt := top 19
theorem sc_swapped : FnScope ["is_both", "thing"] ["is_both", "thing"] (defScope st_swapped) := ⟨rfl, rfl, rfl, by decide +kernel, rfl, by decide +kernel, by decide +kernel⟩
theorem ok_swapped (M : MF mg) (F : Fun K "swapped" "swapped" st_swapped f fd) : FnOk P w K mg base (CX1 P w) (n + 1) f fd ["is_both", "thing"] (spD cv 2 (m_swapped (n + 1))) :=
  fun_okD M F sc_swapped fun cdv A outer s H E B =>
    (by (refine b_cons (s_if (u_val (x_var 0)) (b_one (s_ret (x_tup (a_cons (x_at (x_var 1) x_int) (a_cons (x_at (x_var 1) x_int) a_nil))))) b_nil) ?_); exact b_one (s_ret (x_tup (a_cons (x_ifx (u_Eq B.C (x_at (x_var 1) x_int) x_str) x_str x_str) (a_cons (x_at (x_var 1) x_int) a_nil)))))
abbrev st_forth_here : Stmt := top 17
theorem sc_forth_here : FnScope ["word", "found", "thing", "is_both"] ["word", "found", "thing"] (defScope st_forth_here) := ⟨rfl, rfl, rfl, by decide +kernel, rfl, by decide +kernel, by decide +kernel⟩
theorem ok_forth_here (M : MF mg) (F : Fun K "forth_here" "forth_here" st_forth_here f fd) (F_crossed : FnF (CX1 P w) P w K mg base cv n "crossed" 1 (m_crossed n)) (F_grouped_pair : FnF (CX1 P w) P w K mg base cv n "grouped_pair" 1 (m_grouped_pair n)) (F_grouped_side : FnF (CX1 P w) P w K mg base cv n "grouped_side" 1 (m_grouped_side n)) (F_swapped : FnF (CX1 P w) P w K mg base cv n "swapped" 2 (m_swapped n)) : FnOk P w K mg base (CX1 P w) (n + 1) f fd ["word", "found", "thing"] (spD cv 3 (m_forth_here (n + 1))) :=
  fun_okD M F sc_forth_here fun cdv A outer s H E B =>
    (by (refine b_cons (s_set 3 B.nd (x_Eq B.C (x_at (x_var 1) x_int) x_str)) ?_); (refine b_cons (s_if (u_Eq B.C (x_var 0) x_str) (b_one (s_ret (x_call F_swapped B.hr B.L (a_cons (x_var 3) (a_cons (x_var 2) a_nil))))) b_nil) ?_); (refine b_cons (s_if (u_Eq B.C (x_var 0) x_str) (b_one (s_ret (x_ifx (u_val (x_var 3)) (x_call F_grouped_pair B.hr B.L (a_cons (x_var 2) a_nil)) (x_call F_grouped_side B.hr B.L (a_cons (x_var 2) a_nil))))) b_nil) ?_); (refine b_cons (s_if (u_Eq B.C (x_var 0) x_str) (b_one (s_ret (x_call F_crossed B.hr B.L (a_cons (x_var 2) a_nil)))) b_nil) ?_); exact b_one (s_ret (x_at (x_var 2) x_int)))
abbrev st_ungrouped_pair : Stmt := top 22
theorem sc_ungrouped_pair : FnScope ["thing"] ["thing"] (defScope st_ungrouped_pair) := ⟨rfl, rfl, rfl, by decide +kernel, rfl, by decide +kernel, by decide +kernel⟩
theorem ok_ungrouped_pair (M : MF mg) (F : Fun K "ungrouped_pair" "ungrouped_pair" st_ungrouped_pair f fd) : FnOk P w K mg base (CX1 P w) (n + 1) f fd ["thing"] (spD cv 1 (m_ungrouped_pair (n + 1))) :=
  fun_okD M F sc_ungrouped_pair fun cdv A outer s H E B =>
    (b_one (s_ret (x_tup (a_cons (x_tup (a_cons (x_at (x_var 0) x_int) (a_cons (x_at (x_at (x_var 0) x_int) x_int) a_nil))) (a_cons (x_at (x_at (x_var 0) x_int) x_int) a_nil)))))
abbrev st_ungrouped_side : Stmt := top 24
theorem sc_ungrouped_side : FnScope ["thing", "inner"] ["thing"] (defScope st_ungrouped_side) := ⟨rfl, rfl, rfl, by decide +kernel, rfl, by decide +kernel, by decide +kernel⟩
theorem ok_ungrouped_side (M : MF mg) (F : Fun K "ungrouped_side" "ungrouped_side" st_ungrouped_side f fd) : FnOk P w K mg base (CX1 P w) (n + 1) f fd ["thing"] (spD cv 1 (m_ungrouped_side (n + 1))) :=
  fun_okD M F sc_ungrouped_side fun cdv A outer s H E B =>
    (by (refine b_cons (s_if (u_Eq B.C (x_at (x_var 0) x_int) x_str) (b_one (s_ret (x_tup (a_cons x_str (a_cons (x_var 0) a_nil))))) b_nil) ?_); (refine b_cons (s_set 1 B.nd (x_at (x_var 0) x_int)) ?_); exact b_one (s_ret (x_ifx (u_Eq B.C (x_at (x_var 1) x_int) x_str) (x_var 1) (x_tup (a_cons x_str (a_cons (x_tup (a_cons x_str (a_cons (x_at (x_var 1) x_int) a_nil))) a_nil))))))
abbrev st_back_here : Stmt := top 18
theorem sc_back_here : FnScope ["word", "found", "thing", "is_both"] ["word", "found", "thing"] (defScope st_back_here) := ⟨rfl, rfl, rfl, by decide +kernel, rfl, by decide +kernel, by decide +kernel⟩
theorem ok_back_here (M : MF mg) (F : Fun K "back_here" "back_here" st_back_here f fd) (F_crossed : FnF (CX1 P w) P w K mg base cv n "crossed" 1 (m_crossed n)) (F_ungrouped_pair : FnF (CX1 P w) P w K mg base cv n "ungrouped_pair" 1 (m_ungrouped_pair n)) (F_ungrouped_side : FnF (CX1 P w) P w K mg base cv n "ungrouped_side" 1 (m_ungrouped_side n)) (F_swapped : FnF (CX1 P w) P w K mg base cv n "swapped" 2 (m_swapped n)) : FnOk P w K mg base (CX1 P w) (n + 1) f fd ["word", "found", "thing"] (spD cv 3 (m_back_here (n + 1))) :=
  fun_okD M F sc_back_here fun cdv A outer s H E B =>
    (by (refine b_cons (s_set 3 B.nd (x_Eq B.C (x_at (x_var 1) x_int) x_str)) ?_); (refine b_cons (s_if (u_Eq B.C (x_var 0) x_str) (b_one (s_ret (x_call F_swapped B.hr B.L (a_cons (x_var 3) (a_cons (x_var 2) a_nil))))) b_nil) ?_); (refine b_cons (s_if (u_Eq B.C (x_var 0) x_str) (b_one (s_ret (x_ifx (u_val (x_var 3)) (x_call F_ungrouped_pair B.hr B.L (a_cons (x_var 2) a_nil)) (x_call F_ungrouped_side B.hr B.L (a_cons (x_var 2) a_nil))))) b_nil) ?_); (refine b_cons (s_if (u_Eq B.C (x_var 0) x_str) (b_one (s_ret (x_call F_crossed B.hr B.L (a_cons (x_var 2) a_nil)))) b_nil) ?_); exact b_one (s_ret (x_ifx (u_val (x_var 3)) (x_tup (a_cons (x_tup a_nil) (a_cons (x_var 2) a_nil))) (x_tup (a_cons x_str (a_cons (x_var 2) a_nil))))))
abbrev st_things_along : Stmt := top 15
theorem sc_things_along : FnScope ["parts", "path", "thing", "things", "found", "place", "step"] ["parts", "path", "thing"] (defScope st_things_along) := ⟨rfl, rfl, rfl, by decide +kernel, rfl, by decide +kernel, by decide +kernel⟩
theorem ok_things_along (M : MF mg) (F : Fun K "things_along" "things_along" st_things_along f fd) (KT_SIDES : KTup K mg "SIDES" (.tuple [.str "left", .str "right"])) : FnOk P w K mg base (CX1 P w) (n + 1) f fd ["parts", "path", "thing"] (spD cv 3 (m_things_along (n + 1))) :=
  fun_okD M F sc_things_along fun cdv A outer s H E B =>
    (by (refine b_cons (s_set 3 B.nd (x_lst (a_cons (x_var 2) a_nil))) ?_); (refine b_cons (s_set 4 B.nd (x_var 2)) ?_); (refine b_cons (s_forET 1 B.pw B.hc B.C.menum (g_pair 5 6 B.hc B.nd) (by (refine b_cons (s_if (u_Eq B.C (x_at (x_at (x_var 0) (x_var 5)) x_int) x_str) (b_one (s_set 4 B.nd (x_at (x_var 4) (x_var 6)))) (b_one (s_if (u_Eq B.C (x_at (x_var 4) x_int) (x_kix KT_SIDES (x_var 6))) (b_one (s_set 4 B.nd (x_at (x_var 4) x_int))) (b_one (s_ret (x_var 3)))))) ?_); exact b_one (s_append 3 (x_var 4)))) ?_); exact b_one (s_ret (x_var 3)))
abbrev st_thing_by : Stmt := top 14
theorem sc_thing_by : FnScope ["parts", "turning", "thing", "change", "path", "things", "made", "place", "above", "is_first_of_both"] ["parts", "turning", "thing", "change"] (defScope st_thing_by) := ⟨rfl, rfl, rfl, by decide +kernel, rfl, by decide +kernel, by decide +kernel⟩
theorem ok_thing_by (M : MF mg) (F : Fun K "thing_by" "thing_by" st_thing_by f fd) (F_forth_here : FnF (CX1 P w) P w K mg base cv n "forth_here" 3 (m_forth_here n)) (F_back_here : FnF (CX1 P w) P w K mg base cv n "back_here" 3 (m_back_here n)) (F_things_along : FnF (CX1 P w) P w K mg base cv n "things_along" 3 (m_things_along n)) (V_forth_here : mg "forth_here" = some (.ref A_forth_here)) (V_back_here : mg "back_here" = some (.ref A_back_here)) : FnOk P w K mg base (CX1 P w) (n + 1) f fd ["parts", "turning", "thing", "change"] (spD cv 4 (m_thing_by (n + 1))) :=
  fun_okD M F sc_thing_by fun cdv A outer s H E B =>
    (by (refine b_cons (s_set 4 B.nd (x_at (x_var 1) x_int)) ?_); (refine b_cons (s_set 5 B.nd (x_call F_things_along B.hr B.L (a_cons (x_var 0) (a_cons (x_var 4) (a_cons (x_var 2) a_nil))))) ?_); (refine b_cons (s_if (u_Lt B.C (x_len B.C (x_var 5)) (x_len B.C (x_var 0))) (b_one (s_ret (x_var 2))) b_nil) ?_); (refine b_cons (s_set 6 B.nd (x_callV 3 (pf_cons V_forth_here F_forth_here (pf_cons V_back_here F_back_here pf_nil)) B.hr B.L (a_cons (x_at (x_var 1) x_int) (a_cons (x_at (x_var 0) (x_neg x_int)) (a_cons (x_at (x_var 5) (x_neg x_int)) a_nil))))) ?_); (refine b_cons (s_for B.pw B.hc (i_down B.C (x_sub (x_len B.C (x_var 4)) x_int)) (g_name 7 B.nd) (by (refine b_cons (s_set 8 B.nd (x_at (x_var 5) (x_var 7))) ?_); (refine b_cons (s_set 9 B.nd (x_and (x_Eq B.C (x_at (x_at (x_var 0) (x_var 7)) x_int) x_str) (x_one (x_Eq B.C (x_at (x_var 4) (x_var 7)) x_int)))) ?_); exact b_one (s_set 6 B.nd (x_ifx (u_val (x_var 9)) (x_tup (a_cons (x_var 6) (a_cons (x_at (x_var 8) x_int) a_nil))) (x_tup (a_cons (x_at (x_var 8) x_int) (a_cons (x_var 6) a_nil))))))) ?_); exact b_one (s_ret (x_var 6)))
abbrev st_goes : Stmt := top 12
theorem sc_goes : FnScope ["word", "found", "head", "first"] ["word", "found"] (defScope st_goes) := ⟨rfl, rfl, rfl, by decide +kernel, rfl, by decide +kernel, by decide +kernel⟩
theorem ok_goes (M : MF mg) (F : Fun K "goes" "goes" st_goes f fd) : FnOk P w K mg base (CX1 P w) (n + 1) f fd ["word", "found"] (spD cv 2 (m_goes (n + 1))) :=
  fun_okD M F sc_goes fun cdv A outer s H E B =>
    (by (refine b_cons (s_set 2 B.nd (x_at (x_var 1) x_int)) ?_); (refine b_cons (s_if (u_NotIn B.C (x_var 2) (x_tup (a_cons x_str (a_cons x_str a_nil)))) (b_one (s_ret x_bl)) b_nil) ?_); (refine b_cons (s_set 3 B.nd (x_at (x_at (x_var 1) x_int) x_int)) ?_); (refine b_cons (s_if (u_Eq B.C (x_var 0) x_str) (b_one (s_ret x_bl)) b_nil) ?_); (refine b_cons (s_if (u_Eq B.C (x_var 0) x_str) (b_one (s_ret (x_Eq B.C (x_var 3) (x_var 2)))) b_nil) ?_); (refine b_cons (s_if (u_Eq B.C (x_var 0) x_str) (b_one (s_ret (x_and (x_Eq B.C (x_var 2) x_str) (x_one (x_Eq B.C (x_at (x_at (x_var 1) x_int) x_int) x_str))))) b_nil) ?_); exact b_one (s_ret (x_and (x_Eq B.C (x_var 0) x_str) (x_one (x_or (x_Eq B.C (x_var 3) x_str) (x_one (x_and (x_Eq B.C (x_var 2) x_str) (x_one (x_Eq B.C (x_var 3) x_str)))))))))
abbrev st_parts_along : Stmt := top 5
theorem sc_parts_along : FnScope ["kind", "path", "parts", "found", "step"] ["kind", "path"] (defScope st_parts_along) := ⟨rfl, rfl, rfl, by decide +kernel, rfl, by decide +kernel, by decide +kernel⟩
theorem ok_parts_along (M : MF mg) (F : Fun K "parts_along" "parts_along" st_parts_along f fd) (R_NoTurning : ExcF K mg cv "NoTurning" 2) : FnOk P w K mg base (CX1 P w) (n + 1) f fd ["kind", "path"] (spD cv 2 (m_parts_along (n + 1))) :=
  fun_okD M F sc_parts_along fun cdv A outer s H E B =>
    (by (refine b_cons (s_set 2 B.nd (x_lst (a_cons (x_var 0) a_nil))) ?_); (refine b_cons (s_set 3 B.nd (x_var 0)) ?_); (refine b_cons (s_forV 1 B.pw B.hc (g_name 4 B.nd) (by (refine b_cons (s_if (L2.PW.pt (u_or (u_NotIn B.C (x_at (x_var 3) x_int) (x_tup (a_cons x_str (a_cons x_str a_nil)))) (u_oneOr (u_NotIn B.C (x_var 4) (x_tup (a_cons x_int (a_cons x_int a_nil))))))) (b_one (s_raise R_NoTurning B.hr.hd B.R)) b_nil) ?_); (refine b_cons (s_set 3 B.nd (x_at (x_var 3) (x_add x_int (x_var 4)))) ?_); exact b_one (s_append 2 (x_var 3)))) ?_); exact b_one (s_ret (x_var 2)))
abbrev st_parts_to_turn : Stmt := top 11
theorem sc_parts_to_turn : FnScope ["kind", "turning", "parts"] ["kind", "turning"] (defScope st_parts_to_turn) := ⟨rfl, rfl, rfl, by decide +kernel, rfl, by decide +kernel, by decide +kernel⟩
theorem ok_parts_to_turn (M : MF mg) (F : Fun K "parts_to_turn" "parts_to_turn" st_parts_to_turn f fd) (F_goes : FnF (CX1 P w) P w K mg base cv n "goes" 2 (m_goes n)) (F_parts_along : FnF (CX1 P w) P w K mg base cv n "parts_along" 2 (m_parts_along n)) (R_NoTurning : ExcF K mg cv "NoTurning" 2) : FnOk P w K mg base (CX1 P w) (n + 1) f fd ["kind", "turning"] (spD cv 2 (m_parts_to_turn (n + 1))) :=
  fun_okD M F sc_parts_to_turn fun cdv A outer s H E B =>
    (by (refine b_cons (s_set 2 B.nd (x_call F_parts_along B.hr B.L (a_cons (x_var 0) (a_cons (x_at (x_var 1) x_int) a_nil)))) ?_); (refine b_cons (s_if (u_not (u_val (x_call F_goes B.hr B.L (a_cons (x_at (x_var 1) x_int) (a_cons (x_at (x_var 2) (x_neg x_int)) a_nil))))) (b_one (s_raise R_NoTurning B.hr.hd B.R)) b_nil) ?_); exact b_one (s_ret (x_var 2)))
abbrev st_forth : Stmt := top 9
theorem sc_forth : FnScope ["kind", "turning", "thing"] ["kind", "turning", "thing"] (defScope st_forth) := ⟨rfl, rfl, rfl, by decide +kernel, rfl, by decide +kernel, by decide +kernel⟩
theorem ok_forth (M : MF mg) (F : Fun K "forth" "forth" st_forth f fd) (F_thing_by : FnF (CX1 P w) P w K mg base cv n "thing_by" 4 (m_thing_by n)) (F_parts_to_turn : FnF (CX1 P w) P w K mg base cv n "parts_to_turn" 2 (m_parts_to_turn n)) (V_forth_here : mg "forth_here" = some (.ref A_forth_here)) : FnOk P w K mg base (CX1 P w) (n + 1) f fd ["kind", "turning", "thing"] (spD cv 3 (m_forth (n + 1))) :=
  fun_okD M F sc_forth fun cdv A outer s H E B =>
    (b_one (s_ret (x_call F_thing_by B.hr B.L (a_cons (x_call F_parts_to_turn B.hr B.L (a_cons (x_var 0) (a_cons (x_var 1) a_nil))) (a_cons (x_var 1) (a_cons (x_var 2) (a_cons (x_fn V_forth_here) a_nil)))))))
abbrev st_back : Stmt := top 10
theorem sc_back : FnScope ["kind", "turning", "thing"] ["kind", "turning", "thing"] (defScope st_back) := ⟨rfl, rfl, rfl, by decide +kernel, rfl, by decide +kernel, by decide +kernel⟩
theorem ok_back (M : MF mg) (F : Fun K "back" "back" st_back f fd) (F_thing_by : FnF (CX1 P w) P w K mg base cv n "thing_by" 4 (m_thing_by n)) (F_parts_to_turn : FnF (CX1 P w) P w K mg base cv n "parts_to_turn" 2 (m_parts_to_turn n)) (V_back_here : mg "back_here" = some (.ref A_back_here)) : FnOk P w K mg base (CX1 P w) (n + 1) f fd ["kind", "turning", "thing"] (spD cv 3 (m_back (n + 1))) :=
  fun_okD M F sc_back fun cdv A outer s H E B =>
    (b_one (s_ret (x_call F_thing_by B.hr B.L (a_cons (x_call F_parts_to_turn B.hr B.L (a_cons (x_var 0) (a_cons (x_var 1) a_nil))) (a_cons (x_var 1) (a_cons (x_var 2) (a_cons (x_fn V_back_here) a_nil)))))))
abbrev st_count : Stmt := top 4
theorem sc_count : FnScope ["kind", "sizes", "word", "first", "second"] ["kind", "sizes"] (defScope st_count) := ⟨rfl, rfl, rfl, by decide +kernel, rfl, by decide +kernel, by decide +kernel⟩
theorem ok_count (M : MF mg) (F : Fun K "count" "count" st_count f fd) (F_count : FnF (CX1 P w) P w K mg base cv n "count" 2 (m_count n)) : FnOk P w K mg base (CX1 P w) (n + 1) f fd ["kind", "sizes"] (spD cv 2 (m_count (n + 1))) :=
  fun_okD M F sc_count fun cdv A outer s H E B =>
    (by (refine b_cons (s_set 2 B.nd (x_at (x_var 0) x_int)) ?_); (refine b_cons (s_if (u_Eq B.C (x_var 2) x_str) (b_one (s_ret x_int)) b_nil) ?_); (refine b_cons (s_if (u_Eq B.C (x_var 2) x_str) (b_one (s_ret x_int)) b_nil) ?_); (refine b_cons (s_if (u_Eq B.C (x_var 2) x_str) (b_one (s_ret (x_at (x_var 1) (x_at (x_var 0) x_int)))) b_nil) ?_); (refine b_cons (s_set 3 B.nd (x_call F_count B.hr B.L (a_cons (x_at (x_var 0) x_int) (a_cons (x_var 1) a_nil)))) ?_); (refine b_cons (s_set 4 B.nd (x_call F_count B.hr B.L (a_cons (x_at (x_var 0) x_int) (a_cons (x_var 1) a_nil)))) ?_); exact b_one (s_ret (x_ifx (u_Eq B.C (x_var 2) x_str) (x_add (x_var 3) (x_var 4)) (x_mul (x_var 3) (x_var 4)))))
abbrev st_law_things : Stmt := top 31
theorem sc_law_things : FnScope ["kind", "sizes", "left", "right", "found", "thing"] ["kind", "sizes"] (defScope st_law_things) := ⟨rfl, rfl, rfl, by decide +kernel, rfl, by decide +kernel, by decide +kernel⟩
theorem ok_law_things (M : MF mg) (F : Fun K "_law_things" "_law_things" st_law_things f fd) (F_law_things : FnF (CX1 P w) P w K mg base cv n "_law_things" 2 (m_law_things n)) : FnOk P w K mg base (CX1 P w) (n + 1) f fd ["kind", "sizes"] (spD cv 2 (m_law_things (n + 1))) :=
  fun_okD M F sc_law_things fun cdv A outer s H E B =>
    (by (refine b_cons (s_if (u_Eq B.C (x_len B.C (x_var 0)) x_int) (b_one (s_ret (x_mul (x_lst (a_cons (x_tup a_nil) a_nil)) (x_inti B.C (x_Eq B.C (x_at (x_var 0) x_int) x_str))))) b_nil) ?_); (refine b_cons (s_if (u_Eq B.C (x_len B.C (x_var 0)) x_int) (b_one (s_ret (x_listRng B.C B.hc (x_at (x_var 1) (x_at (x_var 0) x_int))))) b_nil) ?_); (refine b_cons (s_set 2 B.nd (x_call F_law_things B.hr B.L (a_cons (x_at (x_var 0) x_int) (a_cons (x_var 1) a_nil)))) ?_); (refine b_cons (s_set 3 B.nd (x_call F_law_things B.hr B.L (a_cons (x_at (x_var 0) x_int) (a_cons (x_var 1) a_nil)))) ?_); (refine b_cons (s_set 4 B.nd (x_lst a_nil)) ?_); (refine b_cons (s_if (u_Eq B.C (x_at (x_var 0) x_int) x_str) (by (refine b_cons (s_extend 4 (x_comp (fr := []) B.C B.hr B.hc (i_seq (x_var 2)) (fun cl Ca s2 H2 fp B => (x_tup (a_cons x_str (a_cons (x_var 0) a_nil)))))) ?_); (refine b_cons (s_extend 4 (x_comp (fr := []) B.C B.hr B.hc (i_seq (x_var 3)) (fun cl Ca s2 H2 fp B => (x_tup (a_cons x_str (a_cons (x_var 0) a_nil)))))) ?_); exact b_one (s_ret (x_var 4))) b_nil) ?_); (refine b_cons (s_forV 2 B.pw B.hc (g_name 5 B.nd) (b_one (s_extend 4 (x_comp (fr := ["thing"]) B.C B.hr B.hc (i_seq (x_var 3)) (fun cl Ca s2 H2 fp B => (x_tup (a_cons (x_var 1) (a_cons (x_var 0) a_nil)))))))) ?_); exact b_one (s_ret (x_var 4)))
abbrev st_kind_here : Stmt := top 16
theorem sc_kind_here : FnScope ["word", "found", "head", "first", "second"] ["word", "found"] (defScope st_kind_here) := ⟨rfl, rfl, rfl, by decide +kernel, rfl, by decide +kernel, by decide +kernel⟩
theorem ok_kind_here (M : MF mg) (F : Fun K "kind_here" "kind_here" st_kind_here f fd) : FnOk P w K mg base (CX1 P w) (n + 1) f fd ["word", "found"] (spD cv 2 (m_kind_here (n + 1))) :=
  fun_okD M F sc_kind_here fun cdv A outer s H E B =>
    (by (refine b_cons (s_set 2 B.nd (x_at (x_var 1) x_int)) ?_); (refine b_cons (s_set 3 B.nd (x_at (x_var 1) x_int)) ?_); (refine b_cons (s_set 4 B.nd (x_at (x_var 1) x_int)) ?_); (refine b_cons (s_if (u_Eq B.C (x_var 0) x_str) (b_one (s_ret (x_tup (a_cons (x_var 2) (a_cons (x_var 4) (a_cons (x_var 3) a_nil)))))) b_nil) ?_); (refine b_cons (s_if (u_Eq B.C (x_var 0) x_str) (b_one (s_ret (x_tup (a_cons (x_var 2) (a_cons (x_at (x_var 3) x_int) (a_cons (x_tup (a_cons (x_var 2) (a_cons (x_at (x_var 3) x_int) (a_cons (x_var 4) a_nil)))) a_nil)))))) b_nil) ?_); (refine b_cons (s_if (u_Eq B.C (x_var 0) x_str) (b_one (s_ret (x_tup (a_cons x_str (a_cons (x_tup (a_cons x_str (a_cons (x_var 3) (a_cons (x_at (x_var 4) x_int) a_nil)))) (a_cons (x_tup (a_cons x_str (a_cons (x_var 3) (a_cons (x_at (x_var 4) x_int) a_nil)))) a_nil)))))) b_nil) ?_); exact b_one (s_ret (x_ifx (L2.PW.pt (u_and (u_Eq B.C (x_var 2) x_str) (u_oneAnd (u_Eq B.C (x_at (x_var 3) x_int) x_str)))) (x_var 3) (x_var 4))))
abbrev st_kind_by : Stmt := top 13
theorem sc_kind_by : FnScope ["parts", "turning", "path", "made", "place", "above"] ["parts", "turning"] (defScope st_kind_by) := ⟨rfl, rfl, rfl, by decide +kernel, rfl, by decide +kernel, by decide +kernel⟩
theorem ok_kind_by (M : MF mg) (F : Fun K "kind_by" "kind_by" st_kind_by f fd) (F_kind_here : FnF (CX1 P w) P w K mg base cv n "kind_here" 2 (m_kind_here n)) : FnOk P w K mg base (CX1 P w) (n + 1) f fd ["parts", "turning"] (spD cv 2 (m_kind_by (n + 1))) :=
  fun_okD M F sc_kind_by fun cdv A outer s H E B =>
    (by (refine b_cons (s_set 2 B.nd (x_at (x_var 1) x_int)) ?_); (refine b_cons (s_set 3 B.nd (x_call F_kind_here B.hr B.L (a_cons (x_at (x_var 1) x_int) (a_cons (x_at (x_var 0) (x_neg x_int)) a_nil)))) ?_); (refine b_cons (s_for B.pw B.hc (i_down B.C (x_sub (x_len B.C (x_var 2)) x_int)) (g_name 4 B.nd) (by (refine b_cons (s_set 5 B.nd (x_at (x_var 0) (x_var 4))) ?_); exact b_one (s_set 3 B.nd (x_ifx (u_Eq B.C (x_at (x_var 2) (x_var 4)) x_int) (x_tup (a_cons (x_at (x_var 5) x_int) (a_cons (x_var 3) (a_cons (x_at (x_var 5) x_int) a_nil)))) (x_tup (a_cons (x_at (x_var 5) x_int) (a_cons (x_at (x_var 5) x_int) (a_cons (x_var 3) a_nil)))))))) ?_); exact b_one (s_ret (x_var 3)))
abbrev st_turned : Stmt := top 8
theorem sc_turned : FnScope ["kind", "turning"] ["kind", "turning"] (defScope st_turned) := ⟨rfl, rfl, rfl, by decide +kernel, rfl, by decide +kernel, by decide +kernel⟩
theorem ok_turned (M : MF mg) (F : Fun K "turned" "turned" st_turned f fd) (F_kind_by : FnF (CX1 P w) P w K mg base cv n "kind_by" 2 (m_kind_by n)) (F_parts_to_turn : FnF (CX1 P w) P w K mg base cv n "parts_to_turn" 2 (m_parts_to_turn n)) : FnOk P w K mg base (CX1 P w) (n + 1) f fd ["kind", "turning"] (spD cv 2 (m_turned (n + 1))) :=
  fun_okD M F sc_turned fun cdv A outer s H E B =>
    (b_one (s_ret (x_call F_kind_by B.hr B.L (a_cons (x_call F_parts_to_turn B.hr B.L (a_cons (x_var 0) (a_cons (x_var 1) a_nil))) (a_cons (x_var 1) a_nil)))))
abbrev st_law_here : Stmt := top 34
theorem sc_law_here : FnScope ["kind", "word", "k", "m"] ["kind", "word"] (defScope st_law_here) := ⟨rfl, rfl, rfl, by decide +kernel, rfl, by decide +kernel, by decide +kernel⟩
theorem ok_law_here (M : MF mg) (F : Fun K "_law_here" "_law_here" st_law_here f fd) : FnOk P w K mg base (CX1 P w) (n + 1) f fd ["kind", "word"] (spD cv 2 (m_law_here (n + 1))) :=
  fun_okD M F sc_law_here fun cdv A outer s H E B =>
    (by (refine b_cons (s_if (u_Lt B.C (x_len B.C (x_var 0)) x_int) (b_one (s_ret x_non)) b_nil) ?_); (refine b_cons (s_set 2 B.nd (x_at (x_var 0) x_int)) ?_); (refine b_cons (s_set 3 B.nd (x_at (x_var 0) x_int)) ?_); (refine b_cons (s_if (u_Eq B.C (x_var 1) x_str) (b_one (s_ret (x_tup (a_cons (x_at (x_var 0) x_int) (a_cons (x_var 3) (a_cons (x_var 2) a_nil)))))) b_nil) ?_); (refine b_cons (s_if (L2.PW.pt (u_and (u_Eq B.C (x_var 1) x_str) (u_oneAnd (u_Eq B.C (x_at (x_var 2) x_int) (x_at (x_var 0) x_int))))) (b_one (s_ret (x_tup (a_cons (x_at (x_var 0) x_int) (a_cons (x_at (x_var 2) x_int) (a_cons (x_tup (a_cons (x_at (x_var 0) x_int) (a_cons (x_at (x_var 2) x_int) (a_cons (x_var 3) a_nil)))) a_nil)))))) b_nil) ?_); (refine b_cons (s_if (L2.PW.pt (u_and (u_Eq B.C (x_var 1) x_str) (u_and (u_Eq B.C (x_at (x_var 0) x_int) x_str) (u_oneAnd (u_Eq B.C (x_at (x_var 3) x_int) x_str))))) (b_one (s_ret (x_tup (a_cons x_str (a_cons (x_tup (a_cons x_str (a_cons (x_var 2) (a_cons (x_at (x_var 3) x_int) a_nil)))) (a_cons (x_tup (a_cons x_str (a_cons (x_var 2) (a_cons (x_at (x_var 3) x_int) a_nil)))) a_nil)))))) b_nil) ?_); (refine b_cons (s_if (L2.PW.pt (u_and (u_Eq B.C (x_var 1) x_str) (u_and (u_Eq B.C (x_at (x_var 0) x_int) x_str) (u_oneAnd (u_Eq B.C (x_at (x_var 2) x_int) x_str))))) (b_one (s_ret (x_tup (a_cons x_str a_nil)))) b_nil) ?_); (refine b_cons (s_if (L2.PW.pt (u_and (u_Eq B.C (x_var 1) x_str) (u_oneAnd (u_In B.C (x_tup (a_cons (x_at (x_var 0) x_int) (a_cons (x_at (x_var 2) x_int) a_nil))) (x_tup (a_cons (x_tup (a_cons x_str (a_cons x_str a_nil))) (a_cons (x_tup (a_cons x_str (a_cons x_str a_nil))) a_nil))))))) (b_one (s_ret (x_var 3))) b_nil) ?_); exact b_one (s_ret x_non))
abbrev st_law_part : Stmt := top 33
theorem sc_law_part : FnScope ["kind", "path", "side"] ["kind", "path"] (defScope st_law_part) := ⟨rfl, rfl, rfl, by decide +kernel, rfl, by decide +kernel, by decide +kernel⟩
theorem ok_law_part (M : MF mg) (F : Fun K "_law_part" "_law_part" st_law_part f fd) : FnOk P w K mg base (CX1 P w) (n + 1) f fd ["kind", "path"] (spD cv 2 (m_law_part (n + 1))) :=
  fun_okD M F sc_law_part fun cdv A outer s H E B =>
    (by (refine b_cons (s_forV 1 B.pw B.hc (g_name 2 B.nd) (b_one (s_set 0 B.nd (x_at (x_var 0) (x_add x_int (x_var 2)))))) ?_); exact b_one (s_ret (x_var 0)))
abbrev st_law_paths : Stmt := top 32
theorem sc_law_paths : FnScope ["kind", "found", "waiting", "path"] ["kind"] (defScope st_law_paths) := ⟨rfl, rfl, rfl, by decide +kernel, rfl, by decide +kernel, by decide +kernel⟩
theorem ok_law_paths (M : MF mg) (F : Fun K "_law_paths" "_law_paths" st_law_paths f fd) (F_law_part : FnF (CX1 P w) P w K mg base cv n "_law_part" 2 (m_law_part n)) : FnOk P w K mg base (CX1 P w) (n + 1) f fd ["kind"] (spD cv 1 (m_law_paths (n + 1))) :=
  fun_okD M F sc_law_paths fun cdv A outer s H E B =>
    (by (refine b_cons (s_set 1 B.nd (x_lst a_nil)) ?_); (refine b_cons (s_set 2 B.nd (x_lst (a_cons (x_tup a_nil) a_nil))) ?_); (refine b_cons (s_while B.pw (u_Ne B.C (x_var 2) (x_lst a_nil)) (by (refine b_cons (s_pop 3 2 B.nd) ?_); (refine b_cons (s_append 1 (x_var 3)) ?_); exact b_one (s_if (u_Eq B.C (x_len B.C (x_call F_law_part B.hr B.L (a_cons (x_var 0) (a_cons (x_var 3) a_nil)))) x_int) (b_one (s_extend 2 (x_lst (a_cons (x_add (x_var 3) (x_tup (a_cons x_int a_nil))) (a_cons (x_add (x_var 3) (x_tup (a_cons x_int a_nil))) a_nil))))) b_nil))) ?_); exact b_one (s_ret (x_var 1)))
abbrev st_law_all_turnings : Stmt := top 36
theorem sc_law_all_turnings : FnScope ["kind", "found", "path", "word"] ["kind"] (defScope st_law_all_turnings) := ⟨rfl, rfl, rfl, by decide +kernel, rfl, by decide +kernel, by decide +kernel⟩
theorem ok_law_all_turnings (M : MF mg) (F : Fun K "_law_all_turnings" "_law_all_turnings" st_law_all_turnings f fd) (F_law_here : FnF (CX1 P w) P w K mg base cv n "_law_here" 2 (m_law_here n)) (F_law_part : FnF (CX1 P w) P w K mg base cv n "_law_part" 2 (m_law_part n)) (F_law_paths : FnF (CX1 P w) P w K mg base cv n "_law_paths" 1 (m_law_paths n)) : FnOk P w K mg base (CX1 P w) (n + 1) f fd ["kind"] (spD cv 1 (m_law_all_turnings (n + 1))) :=
  fun_okD M F sc_law_all_turnings fun cdv A outer s H E B =>
    (by (refine b_cons (s_set 1 B.nd (x_lst a_nil)) ?_); (refine b_cons (s_for B.pw B.hc (i_seq (x_call F_law_paths B.hr B.L (a_cons (x_var 0) a_nil))) (g_name 2 B.nd) (b_one (s_for B.pw B.hc (i_seq (x_lst (a_cons x_str (a_cons x_str (a_cons x_str (a_cons x_str a_nil)))))) (g_name 3 B.nd) (b_one (s_if (u_NotN B.C (x_call F_law_here B.hr B.L (a_cons (x_call F_law_part B.hr B.L (a_cons (x_var 0) (a_cons (x_var 2) a_nil))) (a_cons (x_var 3) a_nil))) x_non) (b_one (s_append 1 (x_tup (a_cons (x_var 3) (a_cons (x_var 2) a_nil))))) b_nil))))) ?_); exact b_one (s_ret (x_var 1)))
abbrev st_law_count : Stmt := top 30
theorem sc_law_count : FnScope ["kind", "sizes"] ["kind", "sizes"] (defScope st_law_count) := ⟨rfl, rfl, rfl, by decide +kernel, rfl, by decide +kernel, by decide +kernel⟩
theorem ok_law_count (M : MF mg) (F : Fun K "_law_count" "_law_count" st_law_count f fd) (F_law_count : FnF (CX1 P w) P w K mg base cv n "_law_count" 2 (m_law_count n)) : FnOk P w K mg base (CX1 P w) (n + 1) f fd ["kind", "sizes"] (spD cv 2 (m_law_count (n + 1))) :=
  fun_okD M F sc_law_count fun cdv A outer s H E B =>
    (by (refine b_cons (s_if (u_Eq B.C (x_len B.C (x_var 0)) x_int) (b_one (s_ret (x_inti B.C (x_Eq B.C (x_at (x_var 0) x_int) x_str)))) b_nil) ?_); (refine b_cons (s_if (u_Eq B.C (x_len B.C (x_var 0)) x_int) (b_one (s_ret (x_at (x_var 1) (x_at (x_var 0) x_int)))) b_nil) ?_); (refine b_cons (s_if (u_Eq B.C (x_at (x_var 0) x_int) x_str) (b_one (s_ret (x_add (x_call F_law_count B.hr B.L (a_cons (x_at (x_var 0) x_int) (a_cons (x_var 1) a_nil))) (x_call F_law_count B.hr B.L (a_cons (x_at (x_var 0) x_int) (a_cons (x_var 1) a_nil)))))) b_nil) ?_); exact b_one (s_ret (x_mul (x_call F_law_count B.hr B.L (a_cons (x_at (x_var 0) x_int) (a_cons (x_var 1) a_nil))) (x_call F_law_count B.hr B.L (a_cons (x_at (x_var 0) x_int) (a_cons (x_var 1) a_nil))))))
abbrev st_law_draw : Stmt := top 28
theorem sc_law_draw : FnScope ["cell", "k", "bound", "stir"] ["cell", "k", "bound"] (defScope st_law_draw) := ⟨rfl, rfl, rfl, by decide +kernel, rfl, by decide +kernel, by decide +kernel⟩
theorem ok_law_draw (M : MF mg) (F : Fun K "_law_draw" "_law_draw" st_law_draw f fd) : FnOk P w K mg base (CX1 P w) (n + 1) f fd ["cell", "k", "bound"] (spD cv 3 (m_law_draw (n + 1))) :=
  fun_okD M F sc_law_draw fun cdv A outer s H E B =>
    (by (refine b_cons (s_set 3 B.nd (x_mod (x_add (x_add (x_mod (x_var 0) x_int) x_int) (x_mul (x_var 1) x_int)) x_int)) ?_); (refine b_cons (s_set 3 B.nd (x_mod (x_mul (x_mod (x_mul (x_var 3) (x_var 3)) x_int) x_int) x_int)) ?_); (refine b_cons (s_set 3 B.nd (x_mod (x_mul (x_mod (x_mul (x_var 3) (x_var 3)) x_int) x_int) x_int)) ?_); exact b_one (s_ret (x_mod (x_div (x_var 3) x_int) (x_var 2))))
abbrev st_law_sizes : Stmt := top 37
theorem sc_law_sizes : FnScope ["cell", "top"] ["cell", "top"] (defScope st_law_sizes) := ⟨rfl, rfl, rfl, by decide +kernel, rfl, by decide +kernel, by decide +kernel⟩
theorem ok_law_sizes (M : MF mg) (F : Fun K "_law_sizes" "_law_sizes" st_law_sizes f fd) (F_law_draw : FnF (CX1 P w) P w K mg base cv n "_law_draw" 3 (m_law_draw n)) : FnOk P w K mg base (CX1 P w) (n + 1) f fd ["cell", "top"] (spD cv 2 (m_law_sizes (n + 1))) :=
  fun_okD M F sc_law_sizes fun cdv A outer s H E B =>
    (b_one (s_ret (x_tuple B.C (x_comp (fr := ["cell", "top"]) B.C B.hr B.hc (i_r1 B.C x_int) (fun cl Ca s2 H2 fp B => (x_call F_law_draw B.hr B.L (a_cons (x_var 1) (a_cons (x_add x_int (x_var 0)) (a_cons (x_add (x_var 2) x_int) a_nil)))))))))
abbrev st_law_stir : Stmt := top 26
theorem sc_law_stir : FnScope ["cell", "found", "factor", "mixed"] ["cell"] (defScope st_law_stir) := ⟨rfl, rfl, rfl, by decide +kernel, rfl, by decide +kernel, by decide +kernel⟩
theorem ok_law_stir (M : MF mg) (F : Fun K "_law_stir" "_law_stir" st_law_stir f fd) : FnOk P w K mg base (CX1 P w) (n + 1) f fd ["cell"] (spD cv 1 (m_law_stir (n + 1))) :=
  fun_okD M F sc_law_stir fun cdv A outer s H E B =>
    (by (refine b_cons (s_set 1 B.nd x_int) ?_); (refine b_cons (s_for B.pw B.hc (i_seq (x_lst (a_cons x_int (a_cons x_int (a_cons x_int (a_cons x_int a_nil)))))) (g_name 2 B.nd) (by (refine b_cons (s_set 3 B.nd (x_mod (x_add (x_mul (x_var 0) (x_var 2)) x_int) x_int)) ?_); (refine b_cons (s_set 3 B.nd (x_mod (x_mul (x_mod (x_mul (x_var 3) (x_var 3)) x_int) x_int) x_int)) ?_); exact b_one (s_set 1 B.nd (x_add (x_mul (x_var 1) (x_pow x_int x_int)) (x_div (x_var 3) x_int))))) ?_); exact b_one (s_ret (x_var 1)))
abbrev st_law_cell : Stmt := top 27
theorem sc_law_cell : FnScope ["script", "k"] ["script", "k"] (defScope st_law_cell) := ⟨rfl, rfl, rfl, by decide +kernel, rfl, by decide +kernel, by decide +kernel⟩
theorem ok_law_cell (M : MF mg) (F : Fun K "_law_cell" "_law_cell" st_law_cell f fd) (F_law_stir : FnF (CX1 P w) P w K mg base cv n "_law_stir" 1 (m_law_stir n)) : FnOk P w K mg base (CX1 P w) (n + 1) f fd ["script", "k"] (spD cv 2 (m_law_cell (n + 1))) :=
  fun_okD M F sc_law_cell fun cdv A outer s H E B =>
    (by (refine b_cons (s_if (u_Lt B.C (x_var 1) (x_len B.C (x_var 0))) (b_one (s_ret (x_call F_law_stir B.hr B.L (a_cons (x_at (x_var 0) (x_var 1)) a_nil)))) b_nil) ?_); exact b_one (s_ret (x_call F_law_stir B.hr B.L (a_cons x_int a_nil))))
abbrev st_law_kind : Stmt := top 29
theorem sc_law_kind : FnScope ["cell", "leaves", "k", "which", "left", "word"] ["cell", "leaves", "k"] (defScope st_law_kind) := ⟨rfl, rfl, rfl, by decide +kernel, rfl, by decide +kernel, by decide +kernel⟩
theorem ok_law_kind (M : MF mg) (F : Fun K "_law_kind" "_law_kind" st_law_kind f fd) (F_law_kind : FnF (CX1 P w) P w K mg base cv n "_law_kind" 3 (m_law_kind n)) (F_law_draw : FnF (CX1 P w) P w K mg base cv n "_law_draw" 3 (m_law_draw n)) : FnOk P w K mg base (CX1 P w) (n + 1) f fd ["cell", "leaves", "k"] (spD cv 3 (m_law_kind (n + 1))) :=
  fun_okD M F sc_law_kind fun cdv A outer s H E B =>
    (by (refine b_cons (s_if (u_Lt B.C (x_var 1) x_int) (by (refine b_cons (s_set 3 B.nd (x_call F_law_draw B.hr B.L (a_cons (x_var 0) (a_cons (x_mul x_int (x_var 2)) (a_cons x_int a_nil))))) ?_); (refine b_cons (s_if (u_Eq B.C (x_var 3) x_int) (b_one (s_ret (x_tup (a_cons x_str a_nil)))) b_nil) ?_); (refine b_cons (s_if (u_Lt B.C (x_var 3) x_int) (b_one (s_ret (x_tup (a_cons x_str a_nil)))) b_nil) ?_); exact b_one (s_ret (x_tup (a_cons x_str (a_cons (x_mod (x_var 3) x_int) a_nil))))) b_nil) ?_); (refine b_cons (s_set 4 B.nd (x_add x_int (x_call F_law_draw B.hr B.L (a_cons (x_var 0) (a_cons (x_add (x_mul x_int (x_var 2)) x_int) (a_cons (x_sub (x_var 1) x_int) a_nil)))))) ?_); (refine b_cons (s_set 5 B.nd (x_at (x_lst (a_cons x_str (a_cons x_str a_nil))) (x_call F_law_draw B.hr B.L (a_cons (x_var 0) (a_cons (x_add (x_mul x_int (x_var 2)) x_int) (a_cons x_int a_nil)))))) ?_); exact b_one (s_ret (x_tup (a_cons (x_var 5) (a_cons (x_call F_law_kind B.hr B.L (a_cons (x_var 0) (a_cons (x_var 4) (a_cons (x_mul x_int (x_var 2)) a_nil)))) (a_cons (x_call F_law_kind B.hr B.L (a_cons (x_var 0) (a_cons (x_sub (x_var 1) (x_var 4)) (a_cons (x_add (x_mul x_int (x_var 2)) x_int) a_nil)))) a_nil))))))
abbrev st_law : Stmt := top 38
theorem sc_law : FnScope ["script", "kind", "sizes", "things", "turning", "other", "goal", "met", "thing", "found", "there"] ["script"] (defScope st_law) := ⟨rfl, rfl, rfl, by decide +kernel, rfl, by decide +kernel, by decide +kernel⟩
theorem ok_law (M : MF mg) (F : Fun K "law" "law" st_law f fd) (F_forth : FnF (CX1 P w) P w K mg base cv n "forth" 3 (m_forth n)) (F_back : FnF (CX1 P w) P w K mg base cv n "back" 3 (m_back n)) (F_count : FnF (CX1 P w) P w K mg base cv n "count" 2 (m_count n)) (F_law_things : FnF (CX1 P w) P w K mg base cv n "_law_things" 2 (m_law_things n)) (F_turned : FnF (CX1 P w) P w K mg base cv n "turned" 2 (m_turned n)) (F_law_all_turnings : FnF (CX1 P w) P w K mg base cv n "_law_all_turnings" 1 (m_law_all_turnings n)) (F_law_count : FnF (CX1 P w) P w K mg base cv n "_law_count" 2 (m_law_count n)) (F_law_sizes : FnF (CX1 P w) P w K mg base cv n "_law_sizes" 2 (m_law_sizes n)) (F_law_cell : FnF (CX1 P w) P w K mg base cv n "_law_cell" 2 (m_law_cell n)) (F_law_kind : FnF (CX1 P w) P w K mg base cv n "_law_kind" 3 (m_law_kind n)) : FnOk P w K mg base (CX1 P w) (n + 1) f fd ["script"] (spD cv 1 (m_law (n + 1))) :=
  fun_okD M F sc_law fun cdv A outer s H E B =>
    (by (refine b_cons (s_set 1 B.nd (x_call F_law_kind B.hr B.L (a_cons (x_call F_law_cell B.hr B.L (a_cons (x_var 0) (a_cons x_int a_nil))) (a_cons (x_add x_int (x_mod (x_call F_law_cell B.hr B.L (a_cons (x_var 0) (a_cons x_int a_nil))) x_int)) (a_cons x_int a_nil))))) ?_); (refine b_cons (s_set 2 B.nd (x_call F_law_sizes B.hr B.L (a_cons (x_call F_law_cell B.hr B.L (a_cons (x_var 0) (a_cons x_int a_nil))) (a_cons x_int a_nil)))) ?_); (refine b_cons (s_if (u_Gt B.C (x_call F_law_count B.hr B.L (a_cons (x_var 1) (a_cons (x_var 2) a_nil))) x_int) (b_one (s_set 2 B.nd (x_call F_law_sizes B.hr B.L (a_cons (x_call F_law_cell B.hr B.L (a_cons (x_var 0) (a_cons x_int a_nil))) (a_cons x_int a_nil))))) b_nil) ?_); (refine b_cons (s_set 3 B.nd (x_call F_law_things B.hr B.L (a_cons (x_var 1) (a_cons (x_var 2) a_nil)))) ?_); (refine b_cons (s_for B.pw B.hc (i_seq (x_sl (x_call F_law_all_turnings B.hr B.L (a_cons (x_var 1) a_nil)) o_none (o_some x_int))) (g_name 4 B.nd) (by (refine b_cons (s_set 5 B.nd (x_call F_turned B.hr B.L (a_cons (x_var 1) (a_cons (x_var 4) a_nil)))) ?_); (refine b_cons (s_set 6 B.nd (x_call F_law_things B.hr B.L (a_cons (x_var 5) (a_cons (x_var 2) a_nil)))) ?_); (refine b_cons (s_if (L2.PW.pt (u_or (u_Ne B.C (x_call F_count B.hr B.L (a_cons (x_var 5) (a_cons (x_var 2) a_nil))) (x_len B.C (x_var 3))) (u_oneOr (u_Ne B.C (x_len B.C (x_var 6)) (x_len B.C (x_var 3)))))) (b_one (s_ret x_bl)) b_nil) ?_); (refine b_cons (s_dnew 7 B.nd) ?_); (refine b_cons (s_forV 3 B.pw B.hc (g_name 8 B.nd) (by (refine b_cons (s_set 9 B.nd (x_call F_forth B.hr B.L (a_cons (x_var 1) (a_cons (x_var 4) (a_cons (x_var 8) a_nil))))) ?_); (refine b_cons (s_if (L2.PW.pt (u_or (u_hasIn B.C 7 (x_var 9)) (u_oneOr (u_Ne B.C (x_call F_back B.hr B.L (a_cons (x_var 1) (a_cons (x_var 4) (a_cons (x_var 9) a_nil)))) (x_var 8))))) (b_one (s_ret x_bl)) b_nil) ?_); exact b_one (s_dput 7 B.C (x_var 9)))) ?_); exact b_one (s_forV 6 B.pw B.hc (g_name 8 B.nd) (by (refine b_cons (s_set 10 B.nd (x_call F_back B.hr B.L (a_cons (x_var 1) (a_cons (x_var 4) (a_cons (x_var 8) a_nil))))) ?_); exact b_one (s_if (L2.PW.pt (u_or (u_hasNot B.C 7 (x_var 8)) (u_oneOr (u_Ne B.C (x_call F_forth B.hr B.L (a_cons (x_var 1) (a_cons (x_var 4) (a_cons (x_var 10) a_nil)))) (x_var 8))))) (b_one (s_ret x_bl)) b_nil))))) ?_); exact b_one (s_ret x_bl))
end

end KT
set_option Elab.async false
set_option linter.all false
set_option maxRecDepth 100000
namespace KT
open PySem
/-! ### reading a def's body: the combinators at values -/
section
variable {ρ ρ' : Rho} {l m : Nat} {d x y : PyData} {c : Nat} {f g : FE} {a b : FS}
theorem mulR {i j : Int} (h : j.natAbs < 2 ^ 64) : CMulD i j := .inr (.inl h)
theorem mulL {i j : Int} (h : i.natAbs < 2 ^ 64) : CMulD i j := .inl h
theorem asg_bool (l : Nat) (i : Bool) : asg l (.bool i) = some (.loc (.bool i)) := rfl
theorem asg_str (l : Nat) (i : Str) : asg l (.str i) = some (.loc (.str i)) := rfl
theorem asg_lf {l : Nat} {d : PyData} (h : lf d = true) : asg l d = some (.loc d) := if_pos h
theorem asg_own {ds : List PyData} (h : lfs ds = true) : asg 2 (.list ds) = some (.own ds) := by simp [asg, lf, h]
end
theorem eqII (i j : Int) : dEq (.int i) (.int j) = some (.bool (i == j)) := rfl
theorem eqSS (i j : Str) : dEq (.str i) (.str j) = some (.bool (i == j)) := rfl
theorem neII (i j : Int) : dNe (.int i) (.int j) = some (.bool (!(i == j))) := rfl
theorem addII (i j : Int) : dAdd (.int i) (.int j) = some (.int (i + j)) := rfl
theorem subII (i j : Int) : dSub (.int i) (.int j) = some (.int (i - j)) := rfl
theorem seq_next {a b : FS} {ρ ρ' : Rho} (h : a ρ = some (.next ρ')) : sSeq a b ρ = b ρ' := by unfold sSeq; rw [h]
theorem run_ret {n : Nat} {b : FS} {ds : List PyData} {d : PyData} (h : b (ds.map (fun d => some (.par d)) ++ List.replicate (n - ds.length) none) = some (.ret d)) : runB n b ds = some (.ok d) := by unfold runB; rw [h]
end KT
set_option Elab.async false
set_option linter.all false
set_option maxRecDepth 100000
namespace KT
open PySem
/-! ### kinds -/
inductive Kd where
  | none
  | one
  | name (i : Int)
  | either (a b : Kd)
  | both (a b : Kd)
def enc : Kd → PyData
  | .none => .tuple [.str "none"]
  | .one => .tuple [.str "one"]
  | .name i => .tuple [.str "name", .int i]
  | .either a b => .tuple [.str "either", enc a, enc b]
  | .both a b => .tuple [.str "both", enc a, enc b]
def Kd.leaves : Kd → Nat
  | .either a b => a.leaves + b.leaves
  | .both a b => a.leaves + b.leaves
  | _ => 1
def Kd.Ok : Kd → Prop
  | .name i => 0 ≤ i ∧ i ≤ 3
  | .either a b => a.Ok ∧ b.Ok
  | .both a b => a.Ok ∧ b.Ok
  | _ => True
theorem Kd.pos : ∀ k : Kd, 1 ≤ k.leaves
  | .none => Nat.le_refl _
  | .one => Nat.le_refl _
  | .name _ => Nat.le_refl _
  | .either a b => by have := a.pos; simp only [leaves]; omega
  | .both a b => by have := a.pos; simp only [leaves]; omega
theorem enc_lf : ∀ k : Kd, lf (enc k) = true
  | .none => rfl
  | .one => rfl
  | .name _ => rfl
  | .either a b => by simp [enc, lf, lfs, enc_lf a, enc_lf b]
  | .both a b => by simp [enc, lf, lfs, enc_lf a, enc_lf b]
theorem ok_none : PyData.strOk "none" = true := by decide +kernel
theorem ok_one : PyData.strOk "one" = true := by decide +kernel
theorem ok_name : PyData.strOk "name" = true := by decide +kernel
theorem ok_either : PyData.strOk "either" = true := by decide +kernel
theorem ok_both : PyData.strOk "both" = true := by decide +kernel
theorem ok_left : PyData.strOk "left" = true := by decide +kernel
theorem ok_right : PyData.strOk "right" = true := by decide +kernel
/-! ### words differ -/
theorem w01 : (("either" : Str) == "none") = false := by decide +kernel
theorem w02 : (("either" : Str) == "one") = false := by decide +kernel
theorem w03 : (("either" : Str) == "name") = false := by decide +kernel
theorem w04 : (("both" : Str) == "none") = false := by decide +kernel
theorem w05 : (("both" : Str) == "one") = false := by decide +kernel
theorem w06 : (("both" : Str) == "name") = false := by decide +kernel
theorem w07 : (("both" : Str) == "either") = false := by decide +kernel
theorem w08 : (("one" : Str) == "none") = false := by decide +kernel
theorem w09 : (("name" : Str) == "none") = false := by decide +kernel
theorem w10 : (("name" : Str) == "one") = false := by decide +kernel
theorem w11 : (("none" : Str) == "one") = false := by decide +kernel
theorem w12 : (("either" : Str) == "both") = false := by decide +kernel
theorem w13 : (("none" : Str) == "either") = false := by decide +kernel
theorem w14 : (("none" : Str) == "both") = false := by decide +kernel
theorem w15 : (("one" : Str) == "either") = false := by decide +kernel
theorem w16 : (("one" : Str) == "both") = false := by decide +kernel
theorem w17 : (("name" : Str) == "either") = false := by decide +kernel
theorem w18 : (("name" : Str) == "both") = false := by decide +kernel
end KT
set_option Elab.async false
set_option linter.all false
set_option maxRecDepth 100000
namespace KT
open PySem
def encP (p : List Int) : PyData := .tuple (p.map .int)
theorem lfs_ints : ∀ p : List Int, lfs (p.map .int) = true
  | [] => rfl
  | _ :: p => by simp [lfs, lf, lfs_ints p]
theorem lay_ints : ∀ p : List Int, PyData.canLayAll0 (p.map .int) = true
  | [] => rfl
  | _ :: p => by simp [PyData.canLayAll0, PyData.canLay0, lay_ints p]
theorem lf_path (p : List Int) : lf (encP p) = true := by simp [encP, lf, lfs_ints]
theorem lfs_paths : ∀ xs : List (List Int), lfs (xs.map encP) = true
  | [] => rfl
  | x :: xs => by simp [lfs, lf_path]; exact lfs_paths xs
theorem add_path (p : List Int) (i : Int) (h : p.length ≤ 90000) : dAdd (encP p) (.tuple [.int i]) = some (encP (p ++ [i])) := by
  have hb : p.length + 1 ≤ big := by unfold big; omega
  simp [dAdd, encP, lfs_ints, lfs, lf, hb]
theorem ne_nil (xs : List PyData) (h : PyData.canLayAll0 xs = true) : dNe (.list xs) (.list []) = some (.bool (!xs.isEmpty)) := by
  have h1 : eqOk (.list xs) (.list []) = true := by
    simp [eqOk, PyData.canLay0, h, PyData.canLayAll0, PyData.depth, PyData.depthAll]
  cases xs <;> simp [dNe, dEqB, h1, PyData.eqv, PyData.eqvAll]
end KT
set_option Elab.async false
set_option linter.all false
set_option maxRecDepth 100000
namespace KT
open PySem
/-! ### parts -/
def stepK : Kd → Int → Option Kd
  | .either a b, s => if s = 0 then some a else if s = 1 then some b else none
  | .both a b, s => if s = 0 then some a else if s = 1 then some b else none
  | _, _ => none
def partK : Kd → List Int → Option Kd
  | k, [] => some k
  | k, s :: p => (stepK k s).bind fun c => partK c p
/-- the parts behind the first one -/
def alongT : Kd → List Int → Option (List Kd)
  | _, [] => some []
  | k, s :: p => (stepK k s).bind fun c => (alongT c p).map (c :: ·)
theorem along_part : ∀ (p : List Int) (k : Kd), partK k p = (alongT k p).map fun t => (k :: t).getLast (by simp)
  | [], k => rfl
  | s :: p, k => by
    simp only [partK, alongT]
    cases stepK k s with
    | none => rfl
    | some c =>
      simp only [Option.bind_some, along_part p c]
      cases alongT c p <;> simp
theorem along_len : ∀ (p : List Int) (k : Kd) (t : List Kd), alongT k p = some t → t.length = p.length
  | [], k, t, h => by cases h; rfl
  | s :: p, k, t, h => by
    simp only [alongT] at h
    cases hs : stepK k s with
    | none => rw [hs] at h; cases h
    | some c =>
      rw [hs] at h
      simp only [Option.bind_some] at h
      cases ht : alongT c p with
      | none => rw [ht] at h; cases h
      | some t' => rw [ht] at h; cases h; simp [along_len p c t' ht]
theorem along_get : ∀ (p : List Int) (k : Kd) (t : List Kd) (j : Nat), alongT k p = some t → j < p.length →
    ∃ kj s kc, (k :: t)[j]? = some kj ∧ p[j]? = some s ∧ (k :: t)[j + 1]? = some kc ∧ stepK kj s = some kc
  | [], k, t, j, h, hj => by simp at hj
  | s :: p, k, t, j, h, hj => by
    simp only [alongT] at h
    cases hs : stepK k s with
    | none => rw [hs] at h; cases h
    | some c =>
      rw [hs] at h
      simp only [Option.bind_some] at h
      cases ht : alongT c p with
      | none => rw [ht] at h; cases h
      | some t' =>
        rw [ht] at h; cases h
        cases j with
        | zero => exact ⟨k, s, c, rfl, rfl, rfl, hs⟩
        | succ j =>
          obtain ⟨kj, s', kc, h1, h2, h3, h4⟩ := along_get p c t' j ht (by simpa using hj)
          exact ⟨kj, s', kc, by simpa using h1, by simpa using h2, by simpa using h3, h4⟩
def inW (w : Str) : Bool := ("either" : Str) == w || ("both" : Str) == w
theorem notIn_w (w : Str) (h : PyData.strOk w = true) : dNotIn (.str w) (.tuple [.str "either", .str "both"]) = some (.bool (!inW w)) := by
  have h1 : inOk (.str w) [.str "either", .str "both"] = true := by simp [inOk, PyData.canLay0, PyData.canLayAll0, h, ok_either, ok_both, PyData.depth, PyData.depthAll]
  simp [dNotIn, dInB, h1, PyData.eqv, inW]
theorem notIn_s (i : Int) : dNotIn (.int i) (.tuple [.int 0, .int 1]) = some (.bool (!(0 == i || 1 == i))) := by
  have h1 : inOk (.int i) [.int 0, .int 1] = true := by simp [inOk, PyData.canLay0, PyData.canLayAll0, PyData.depth, PyData.depthAll]
  simp [dNotIn, dInB, h1, PyData.eqv]
theorem iw1 : inW "either" = true := by decide +kernel
theorem iw2 : inW "both" = true := by decide +kernel
theorem iw3 : inW "none" = false := by decide +kernel
theorem iw4 : inW "one" = false := by decide +kernel
theorem iw5 : inW "name" = false := by decide +kernel
theorem at0 (x : PyData) (xs : List PyData) : atP (x :: xs) 0 = some x := by simp [atP, ixP]
theorem at1 (x y : PyData) (xs : List PyData) : atP (x :: y :: xs) 1 = some y := by
  unfold atP ixP
  rw [if_pos (by decide), if_pos (by simp only [List.length_cons]; omega)]; rfl
theorem at2 (x y z : PyData) (xs : List PyData) : atP (x :: y :: z :: xs) 2 = some z := by
  unfold atP ixP
  rw [if_pos (by decide), if_pos (by simp only [List.length_cons]; omega)]; rfl
theorem atN (xs : List PyData) (x : PyData) (h : xs.getLast? = some x) : atP xs (-1) = some x := by
  cases xs with
  | nil => simp at h
  | cons y ys =>
    unfold atP ixP
    rw [if_neg (by decide), if_pos (by simp only [List.length_cons]; omega)]
    have e : ((-1 : Int) + (((y :: ys).length : Nat) : Int)).toNat = ys.length := by simp only [List.length_cons]; omega
    rw [e]
    rw [List.getLast?_eq_getElem?] at h
    simpa using h
/-- the word of a kind -/
def hd : Kd → Str
  | .none => "none"
  | .one => "one"
  | .name _ => "name"
  | .either _ _ => "either"
  | .both _ _ => "both"
theorem enc_hd (k : Kd) : dIx (enc k) (.int 0) = some (.str (hd k)) := by cases k <;> exact at0 _ _
theorem hd_ok (k : Kd) : PyData.strOk (hd k) = true := by cases k <;> simp only [hd, ok_none, ok_one, ok_name, ok_either, ok_both]
def inn : Kd → Bool
  | .either _ _ => true
  | .both _ _ => true
  | _ => false
theorem hd_in (k : Kd) : inW (hd k) = inn k := by cases k <;> simp only [hd, inn, iw1, iw2, iw3, iw4, iw5]
theorem enc_inn {k : Kd} (h : inn k = true) : ∃ a b, enc k = .tuple [.str (hd k), enc a, enc b] ∧ (∀ s, stepK k s = if s = 0 then some a else if s = 1 then some b else none) ∧ k.leaves = a.leaves + b.leaves := by
  cases k with
  | either a b => exact ⟨a, b, rfl, fun s => rfl, rfl⟩
  | both a b => exact ⟨a, b, rfl, fun s => rfl, rfl⟩
  | none => cases h
  | one => cases h
  | name _ => cases h
theorem step_leaf {k : Kd} (h : inn k = false) (s : Int) : stepK k s = none := by cases k <;> first | rfl | cases h
theorem step_ix {k c : Kd} {s : Int} (h : stepK k s = some c) : dIx (enc k) (.int (1 + s)) = some (enc c) ∧ inn k = true ∧ (s = 0 ∨ s = 1) ∧ c.leaves < k.leaves := by
  have hi : inn k = true := by
    cases hi : inn k with
    | true => rfl
    | false => rw [step_leaf hi] at h; cases h
  obtain ⟨a, b, e, hs, hl⟩ := enc_inn hi
  rw [hs] at h
  rw [e]
  have pa := a.pos
  have pb := b.pos
  split at h
  · rename_i h0
    cases h; subst h0
    exact ⟨at1 _ _ _, hi, .inl rfl, by omega⟩
  · split at h
    · rename_i h1
      cases h; subst h1
      exact ⟨at2 _ _ _ _, hi, .inr rfl, by omega⟩
    · cases h
theorem partK_app : ∀ (p q : List Int) (k : Kd), partK k (p ++ q) = (partK k p).bind fun k' => partK k' q
  | [], q, k => by simp [partK]
  | s :: p, q, k => by
    simp only [List.cons_append, partK]
    cases stepK k s with
    | none => rfl
    | some c => simp only [Option.bind_some]; exact partK_app p q c
theorem partK_len : ∀ (q : List Int) (k k' : Kd), partK k q = some k' → q.length + k'.leaves ≤ k.leaves
  | [], k, k', h => by simp only [partK] at h; cases h; simp
  | s :: q, k, k', h => by
    simp only [partK] at h
    cases hs : stepK k s with
    | none => rw [hs] at h; cases h
    | some c =>
      rw [hs] at h
      have := partK_len q c k' h
      have := (step_ix hs).2.2.2
      simp only [List.length_cons]
      omega
theorem for_exc {tg : FT} {body : FS} {d : PyData} {ds : List PyData} {ρ ρ1 : Rho} {c : Nat} {ρ' : Rho} (h1 : tg d ρ = some ρ1) (h2 : body ρ1 = some (.exc c ρ')) : forGo tg body (d :: ds) ρ = some (.exc c ρ') := by simp [forGo, h1, h2]
theorem for_ret {tg : FT} {body : FS} {d : PyData} {ds : List PyData} {ρ ρ1 : Rho} {r : PyData} (h1 : tg d ρ = some ρ1) (h2 : body ρ1 = some (.ret r)) : forGo tg body (d :: ds) ρ = some (.ret r) := by simp [forGo, h1, h2]
theorem for_next {tg : FT} {body : FS} {d : PyData} {ds : List PyData} {ρ ρ1 ρ2 : Rho} (h1 : tg d ρ = some ρ1) (h2 : body ρ1 = some (.next ρ2)) : forGo tg body (d :: ds) ρ = forGo tg body ds ρ2 := by simp [forGo, h1, h2]
end KT
set_option Elab.async false
set_option linter.all false
set_option maxRecDepth 100000
namespace KT
open PySem
mutual
def plain : PyData → Bool
  | .int _ => true
  | .str s => PyData.strOk s
  | .tuple ds => plains ds
  | _ => false
def plains : List PyData → Bool
  | [] => true
  | d :: ds => plain d && plains ds
end
mutual
def wsz : PyData → Nat
  | .tuple ds => 1 + wszs ds
  | _ => 1
def wszs : List PyData → Nat
  | [] => 0
  | d :: ds => wsz d + wszs ds
end
mutual
theorem plain_lay : ∀ d : PyData, plain d = true → d.canLay0 = true
  | .int _, _ => rfl
  | .str s, h => by simpa [PyData.canLay0, plain] using h
  | .tuple ds, h => by simpa [PyData.canLay0] using plains_lay ds (by simpa [plain] using h)
  | .none, h => by simp [plain] at h
  | .bool _, h => by simp [plain] at h
  | .list _, h => by simp [plain] at h
  | .dict _, h => by simp [plain] at h
theorem plains_lay : ∀ ds : List PyData, plains ds = true → PyData.canLayAll0 ds = true
  | [], _ => rfl
  | d :: ds, h => by
    have h' : plain d = true ∧ plains ds = true := by simpa [plains] using h
    simp [PyData.canLayAll0, plain_lay d h'.1, plains_lay ds h'.2]
end
mutual
theorem plain_lf : ∀ d : PyData, plain d = true → lf d = true
  | .int _, _ => rfl
  | .str s, h => rfl
  | .tuple ds, h => by simpa [lf] using plains_lf ds (by simpa [plain] using h)
  | .none, h => by simp [plain] at h
  | .bool _, h => by simp [plain] at h
  | .list _, h => by simp [plain] at h
  | .dict _, h => by simp [plain] at h
theorem plains_lf : ∀ ds : List PyData, plains ds = true → lfs ds = true
  | [], _ => rfl
  | d :: ds, h => by
    have h' : plain d = true ∧ plains ds = true := by simpa [plains] using h
    simp [lfs, plain_lf d h'.1, plains_lf ds h'.2]
end
mutual
theorem plain_eqv : ∀ d : PyData, plain d = true → PyData.eqv d d = true
  | .int _, _ => by simp [PyData.eqv]
  | .str s, h => by simp [PyData.eqv]
  | .tuple ds, h => by simpa [PyData.eqv] using plains_eqv ds (by simpa [plain] using h)
  | .none, h => by simp [plain] at h
  | .bool _, h => by simp [plain] at h
  | .list _, h => by simp [plain] at h
  | .dict _, h => by simp [plain] at h
theorem plains_eqv : ∀ ds : List PyData, plains ds = true → PyData.eqvAll ds ds = true
  | [], _ => rfl
  | d :: ds, h => by
    have h' : plain d = true ∧ plains ds = true := by simpa [plains] using h
    simp [PyData.eqvAll, plain_eqv d h'.1, plains_eqv ds h'.2]
end
end KT
set_option Elab.async false
set_option linter.all false
set_option maxRecDepth 100000
namespace KT
open PySem
/-! ### turnings of kinds -/
def swapK : Kd → Option Kd
  | .either a b => some (.either b a)
  | .both a b => some (.both b a)
  | _ => none
def groupK : Kd → Option Kd
  | .either (.either a b) c => some (.either a (.either b c))
  | .both (.both a b) c => some (.both a (.both b c))
  | _ => none
def spreadK : Kd → Option Kd
  | .both a (.either b c) => some (.either (.both a b) (.both a c))
  | _ => none
def dropK : Kd → Option Kd
  | .either .none b => some b
  | .both .none _ => some .none
  | .both .one b => some b
  | _ => none
def hereK (w : Str) (k : Kd) : Option Kd :=
  if (w == "swap") = true then swapK k else if (w == "group") = true then groupK k else if (w == "spread") = true then spreadK k else if (w == "drop") = true then dropK k else none
def putK : Kd → List Int → Kd → Kd
  | _, [], x => x
  | .either a b, s :: p, x => if s = 0 then .either (putK a p x) b else .either a (putK b p x)
  | .both a b, s :: p, x => if s = 0 then .both (putK a p x) b else .both a (putK b p x)
  | k, _ :: _, _ => k
def turnK (k : Kd) (w : Str) (p : List Int) : Option Kd := (partK k p).bind fun x => (hereK w x).map (putK k p)
theorem v04 : (("group" : Str) == "swap") = false := by decide +kernel
theorem v05 : (("group" : Str) == "spread") = false := by decide +kernel
theorem v06 : (("group" : Str) == "drop") = false := by decide +kernel
theorem v07 : (("spread" : Str) == "swap") = false := by decide +kernel
theorem v08 : (("spread" : Str) == "group") = false := by decide +kernel
theorem v09 : (("spread" : Str) == "drop") = false := by decide +kernel
theorem v10 : (("drop" : Str) == "swap") = false := by decide +kernel
theorem v11 : (("drop" : Str) == "group") = false := by decide +kernel
theorem v12 : (("drop" : Str) == "spread") = false := by decide +kernel
theorem str_eq {w v : Str} (h : (w == v) = true) : w = v := by simpa using h
/-- five words: the four, and any other -/
theorem word5 (w : Str) : w = "swap" ∨ w = "group" ∨ w = "spread" ∨ w = "drop" ∨ ((w == "swap") = false ∧ (w == "group") = false ∧ (w == "spread") = false ∧ (w == "drop") = false) := by
  cases h1 : w == "swap" with
  | true => exact .inl (str_eq h1)
  | false =>
    cases h2 : w == "group" with
    | true => exact .inr (.inl (str_eq h2))
    | false =>
      cases h3 : w == "spread" with
      | true => exact .inr (.inr (.inl (str_eq h3)))
      | false =>
        cases h4 : w == "drop" with
        | true => exact .inr (.inr (.inr (.inl (str_eq h4))))
        | false => exact .inr (.inr (.inr (.inr ⟨rfl, rfl, rfl, rfl⟩)))
theorem here_swap (k : Kd) : hereK "swap" k = swapK k := by simp [hereK]
theorem here_group (k : Kd) : hereK "group" k = groupK k := by simp only [hereK, v04]; simp
theorem here_spread (k : Kd) : hereK "spread" k = spreadK k := by simp only [hereK, v07, v08]; simp
theorem here_drop (k : Kd) : hereK "drop" k = dropK k := by simp only [hereK, v10, v11, v12]; simp
theorem here_no (w : Str) (k : Kd) (h : (w == "swap") = false ∧ (w == "group") = false ∧ (w == "spread") = false ∧ (w == "drop") = false) : hereK w k = none := by simp [hereK, h.1, h.2.1, h.2.2.1, h.2.2.2]
theorem here_leaf (w : Str) (k : Kd) (h : inn k = false) : hereK w k = none := by
  unfold hereK
  cases k <;> first | (cases h; done) | (simp only [swapK, groupK, spreadK, dropK]; split <;> try rfl
                                         split <;> try rfl
                                         split <;> try rfl
                                         split <;> rfl)
theorem ret_noL (A : FE) (ρ ρ' : Rho) : sRet A ρ ≠ some (.next ρ') := by
  unfold sRet bindS
  split <;> first | (simp; done) | (dsimp only; split <;> simp)
/-- if c: return A -/
theorem if_retT {c A : FE} {T : FS} {ρ : Rho} {l : Nat} (h : c ρ = some (.ok l (.bool true))) : sSeq (sIf c (sRet A) sNext) T ρ = sRet A ρ := by
  have hn := ret_noL A ρ
  simp only [sSeq, sIf, h, bindS]
theorem if_retF {c A : FE} {T : FS} {ρ : Rho} {l : Nat} (h : c ρ = some (.ok l (.bool false))) : sSeq (sIf c (sRet A) sNext) T ρ = T ρ := by
  simp only [sSeq, sIf, h, bindS, sNext]
theorem andF {a b : FE} {ρ : Rho} {l : Nat} (h : a ρ = some (.ok l (.bool false))) : eAnd a b ρ = some (.ok 2 (.bool false)) := by simp only [eAnd, h, bindE]
theorem andT {a b : FE} {ρ : Rho} {l : Nat} (h : a ρ = some (.ok l (.bool true))) : eAnd a b ρ = b ρ := by simp only [eAnd, h, bindE]
theorem orT {a b : FE} {ρ : Rho} {l : Nat} (h : a ρ = some (.ok l (.bool true))) : eOr a b ρ = some (.ok 2 (.bool true)) := by simp only [eOr, h, bindE]
theorem orF {a b : FE} {ρ : Rho} {l : Nat} (h : a ρ = some (.ok l (.bool false))) : eOr a b ρ = b ρ := by simp only [eOr, h, bindE]
theorem eqT {a b : FE} {ρ : Rho} {l m : Nat} {x y : Str} (ha : a ρ = some (.ok l (.str x))) (hb : b ρ = some (.ok m (.str y))) {r : Bool} (h : (x == y) = r) : eEq a b ρ = some (.ok 2 (.bool r)) := by
  simp only [eEq, e2, ha, hb, bindE, eqSS, h, Option.map, if_true]
theorem ixT {a : FE} {ρ : Rho} {l : Nat} {x y : PyData} {i : Int} (ha : a ρ = some (.ok l x)) (h : dIx x (.int i) = some y) : eIx a (eC (.int i)) ρ = some (.ok (min l 2) y) := by
  simp only [eIx, e2, ha, eC, bindE, h, Option.map, Bool.false_eq_true, if_false]
theorem retT {a : FE} {ρ : Rho} {l : Nat} {x : PyData} (ha : a ρ = some (.ok l x)) (hl : lf x = true) : sRet a ρ = some (.ret x) := by
  simp only [sRet, ha, bindS, hl, Bool.true_or, if_true]
theorem tup3 {a b c : FE} {ρ : Rho} {l m n : Nat} {x y z : PyData} (ha : a ρ = some (.ok l x)) (hb : b ρ = some (.ok m y)) (hc : c ρ = some (.ok n z)) : eTup [a, b, c] ρ = some (.ok (min l (min m (min n 2))) (.tuple [x, y, z])) := by
  simp only [eTup, eArgs, ha, hb, hc, bindI]
def encT (w : Str) (p : List Int) : PyData := .tuple [.str w, encP p]
theorem at_0 (x : PyData) (xs : List PyData) : dIx (.tuple (x :: xs)) (.int 0) = some x := at0 x xs
theorem at_1 (x y : PyData) (xs : List PyData) : dIx (.tuple (x :: y :: xs)) (.int 1) = some y := at1 x y xs
theorem at_2 (x y z : PyData) (xs : List PyData) : dIx (.tuple (x :: y :: z :: xs)) (.int 2) = some z := at2 x y z xs
end KT
set_option Elab.async false
set_option linter.all false
set_option maxRecDepth 100000
namespace KT
open PySem
/-! ### sizes, counts -/
structure Sz where
  a0 : Int
  a1 : Int
  a2 : Int
  a3 : Int
def encS (z : Sz) : PyData := .tuple [.int z.a0, .int z.a1, .int z.a2, .int z.a3]
def Sz.In (z : Sz) (lo hi : Int) : Prop := (lo ≤ z.a0 ∧ z.a0 ≤ hi) ∧ (lo ≤ z.a1 ∧ z.a1 ≤ hi) ∧ (lo ≤ z.a2 ∧ z.a2 ≤ hi) ∧ (lo ≤ z.a3 ∧ z.a3 ≤ hi)
def Sz.at (z : Sz) (i : Int) : Int := if i = 0 then z.a0 else if i = 1 then z.a1 else if i = 2 then z.a2 else z.a3
theorem Sz.at_in {z : Sz} {lo hi : Int} (h : z.In lo hi) (i : Int) : lo ≤ z.at i ∧ z.at i ≤ hi := by
  obtain ⟨h0, h1, h2, h3⟩ := h
  unfold Sz.at
  split
  · exact h0
  · split
    · exact h1
    · split
      · exact h2
      · exact h3
theorem at_sz {z : Sz} {i : Int} (h0 : 0 ≤ i) (h3 : i ≤ 3) : atP [PyData.int z.a0, .int z.a1, .int z.a2, .int z.a3] i = some (.int (z.at i)) := by
  have h : i = 0 ∨ i = 1 ∨ i = 2 ∨ i = 3 := by omega
  rcases h with rfl | rfl | rfl | rfl <;> rfl
def cnt (z : Sz) : Kd → Int
  | .none => 0
  | .one => 1
  | .name i => z.at i
  | .either a b => cnt z a + cnt z b
  | .both a b => cnt z a * cnt z b
theorem cnt_le {z : Sz} (hz : z.In 0 1000000) : ∀ k : Kd, 0 ≤ cnt z k ∧ cnt z k ≤ ((2 ^ (20 * k.leaves) : Nat) : Int)
  | .none => by simp only [cnt, Kd.leaves]; exact ⟨by decide, by decide⟩
  | .one => by simp only [cnt, Kd.leaves]; exact ⟨by decide, by decide⟩
  | .name i => by
    have := Sz.at_in hz i
    simp only [cnt, Kd.leaves]
    exact ⟨this.1, Int.le_trans this.2 (by decide)⟩
  | .either a b => by
    obtain ⟨a0, a1⟩ := cnt_le hz a
    obtain ⟨b0, b1⟩ := cnt_le hz b
    have e : (2 : Nat) ^ (20 * (a.leaves + b.leaves)) = 2 ^ (20 * a.leaves) * 2 ^ (20 * b.leaves) := by rw [Nat.mul_add, Nat.pow_add]
    have pa : 2 ≤ 2 ^ (20 * a.leaves) := Nat.le_trans (by decide : 2 ≤ 2 ^ 20) (Nat.pow_le_pow_right (by decide) (by have := a.pos; omega))
    have pb : 2 ≤ 2 ^ (20 * b.leaves) := Nat.le_trans (by decide : 2 ≤ 2 ^ 20) (Nat.pow_le_pow_right (by decide) (by have := b.pos; omega))
    simp only [cnt, Kd.leaves]
    rw [e]
    generalize 2 ^ (20 * a.leaves) = u at *
    generalize 2 ^ (20 * b.leaves) = v at *
    have h1 : u + v ≤ u * v := by
      have hu : u = (u - 2) + 2 := by omega
      have : u * v = (u - 2) * v + 2 * v := by rw [← Nat.add_mul, ← hu]
      have h3 : (u - 2) * 2 ≤ (u - 2) * v := Nat.mul_le_mul_left _ pb
      omega
    exact ⟨by omega, by omega⟩
  | .both a b => by
    obtain ⟨a0, a1⟩ := cnt_le hz a
    obtain ⟨b0, b1⟩ := cnt_le hz b
    have e : (2 : Nat) ^ (20 * (a.leaves + b.leaves)) = 2 ^ (20 * a.leaves) * 2 ^ (20 * b.leaves) := by rw [Nat.mul_add, Nat.pow_add]
    simp only [cnt, Kd.leaves]
    rw [e]
    exact ⟨Int.mul_nonneg a0 b0, by rw [Int.natCast_mul]; exact Int.mul_le_mul a1 b1 b0 (Int.natCast_nonneg _)⟩
theorem cnt_mul {z : Sz} (hz : z.In 0 1000000) {a b : Kd} (ha : a.leaves ≤ 12) (hb : b.leaves ≤ 12) : CMulD (cnt z a) (cnt z b) := by
  obtain ⟨a0, a1⟩ := cnt_le hz a
  obtain ⟨b0, b1⟩ := cnt_le hz b
  have pa : 2 ^ (20 * a.leaves) ≤ 2 ^ 240 := Nat.pow_le_pow_right (by decide) (by omega)
  have pb : 2 ^ (20 * b.leaves) ≤ 2 ^ 240 := Nat.pow_le_pow_right (by decide) (by omega)
  have pl : 2 ^ 240 < lim := Nat.pow_lt_pow_right (by decide) (by decide)
  refine .inr (.inr ⟨?_, ?_⟩)
  · generalize 2 ^ 240 = x at *; generalize 2 ^ (20 * a.leaves) = y at *; omega
  · generalize 2 ^ 240 = x at *; generalize 2 ^ (20 * b.leaves) = y at *; omega
end KT
set_option Elab.async false
set_option linter.all false
set_option maxRecDepth 100000
namespace KT
open PySem
def num (z : Sz) : Kd → PyData → Int
  | .name _, .int v => v
  | .both a b, .tuple [x, y] => num z a x * cnt z b + num z b y
  | .either a b, .tuple [.str s, x] => if s == "left" then num z a x else cnt z a + num z b x
  | _, _ => 0
theorem wlr : (("left" : Str) == "right") = false := by decide +kernel
theorem wrl : (("right" : Str) == "left") = false := by decide +kernel
/-! ### comparisons with a text, with () -/
def isStr (d : PyData) (s : Str) : Bool := match d with
  | .str t => t == s
  | _ => false
theorem eqb_str {d : PyData} (hp : plain d = true) {s : Str} (hs : PyData.strOk s = true) : dEqB d (.str s) = some (isStr d s) := by
  have hl := plain_lay d hp
  cases d with
  | str t => rfl
  | int i => simp [dEqB, eqOk, PyData.canLay0, hs, PyData.depth, PyData.eqv, isStr]
  | tuple ds =>
    have : eqOk (.tuple ds) (.str s) = true := by simp [eqOk, hl, show (PyData.str s).canLay0 = true from hs, PyData.depth]
    simp [dEqB, this, PyData.eqv, isStr]
  | none => simp [plain] at hp
  | bool _ => simp [plain] at hp
  | list _ => simp [plain] at hp
  | dict _ => simp [plain] at hp
theorem eq_str {d : PyData} (hp : plain d = true) {s : Str} (hs : PyData.strOk s = true) : dEq d (.str s) = some (.bool (isStr d s)) := by simp [dEq, eqb_str hp hs]
end KT
set_option Elab.async false
set_option linter.all false
set_option maxRecDepth 100000
namespace KT
open PySem
/-! ### things as trees -/
inductive Th where
  | unit
  | num (i : Int)
  | left (t : Th)
  | right (t : Th)
  | pair (a b : Th)
def encTh : Th → PyData
  | .unit => .tuple []
  | .num i => .int i
  | .left t => .tuple [.str "left", encTh t]
  | .right t => .tuple [.str "right", encTh t]
  | .pair a b => .tuple [encTh a, encTh b]
def Th.size : Th → Nat
  | .left t => t.size + 1
  | .right t => t.size + 1
  | .pair a b => a.size + b.size + 1
  | _ => 1
theorem th_plain : ∀ t : Th, plain (encTh t) = true
  | .unit => rfl
  | .num _ => rfl
  | .left t => by simp [encTh, plain, plains, ok_left, th_plain t]
  | .right t => by simp [encTh, plain, plains, ok_right, th_plain t]
  | .pair a b => by simp [encTh, plain, plains, th_plain a, th_plain b]
theorem th_lf (t : Th) : lf (encTh t) = true := plain_lf _ (th_plain t)
def fits (z : Sz) : Kd → Th → Prop
  | .one, .unit => True
  | .name i, .num v => 0 ≤ v ∧ v < z.at i
  | .either a _, .left t => fits z a t
  | .either _ b, .right t => fits z b t
  | .both a b, .pair x y => fits z a x ∧ fits z b y
  | _, _ => False
theorem fits_either {z : Sz} {a b : Kd} {t : Th} (h : fits z (.either a b) t) : (∃ x, t = .left x ∧ fits z a x) ∨ ∃ y, t = .right y ∧ fits z b y := by
  cases t with
  | left x => exact .inl ⟨x, rfl, h⟩
  | right y => exact .inr ⟨y, rfl, h⟩
  | unit => exact h.elim
  | num _ => exact h.elim
  | pair _ _ => exact h.elim
theorem fits_both {z : Sz} {a b : Kd} {t : Th} (h : fits z (.both a b) t) : ∃ x y, t = .pair x y ∧ fits z a x ∧ fits z b y := by
  cases t with
  | pair x y => exact ⟨x, y, rfl, h⟩
  | unit => exact h.elim
  | num _ => exact h.elim
  | left _ => exact h.elim
  | right _ => exact h.elim
theorem fits_one {z : Sz} {t : Th} (h : fits z .one t) : t = .unit := by cases t <;> first | rfl | exact h.elim
theorem fits_none {z : Sz} {t : Th} (h : fits z .none t) : False := by cases t <;> exact h
/-! ### a thing turned where the turning is -/
def fwdH (w : Str) (k : Kd) (t : Th) : Th :=
  if (w == "swap") = true then (match t with
    | .left x => .right x
    | .right x => .left x
    | .pair x y => .pair y x
    | t => t)
  else if (w == "group") = true then (match t with
    | .pair (.pair x y) u => .pair x (.pair y u)
    | .left (.left x) => .left x
    | .left (.right x) => .right (.left x)
    | .right x => .right (.right x)
    | t => t)
  else if (w == "spread") = true then (match t with
    | .pair x (.left y) => .left (.pair x y)
    | .pair x (.right y) => .right (.pair x y)
    | t => t)
  else (match t with
    | .right x => x
    | .pair _ x => x
    | t => t)
def bwdH (w : Str) (k : Kd) (t : Th) : Th :=
  if (w == "swap") = true then (match t with
    | .left x => .right x
    | .right x => .left x
    | .pair x y => .pair y x
    | t => t)
  else if (w == "group") = true then (match t with
    | .pair x (.pair y u) => .pair (.pair x y) u
    | .left x => .left (.left x)
    | .right (.left x) => .left (.right x)
    | .right (.right x) => .right x
    | t => t)
  else if (w == "spread") = true then (match t with
    | .left (.pair x y) => .pair x (.left y)
    | .right (.pair x y) => .pair x (.right y)
    | t => t)
  else (match k with
    | .both _ _ => .pair .unit t
    | _ => .right t)
/-! ### within a thing -/
def appT : Kd → List Int → (Th → Th) → Th → Th
  | _, [], f, t => f t
  | .either a b, s :: p, f, .left x => if s = 0 then .left (appT a p f x) else .left x
  | .either a b, s :: p, f, .right x => if s = 0 then .right x else .right (appT b p f x)
  | .both a b, s :: p, f, .pair x y => if s = 0 then .pair (appT a p f x) y else .pair x (appT b p f y)
  | _, _ :: _, _, t => t
/-- of the shape of the kind along the path, and P at its end -/
def fitP : Kd → List Int → (Th → Prop) → Th → Prop
  | _, [], P, t => P t
  | .either a b, s :: p, P, .left x => if s = 0 then fitP a p P x else True
  | .either a b, s :: p, P, .right x => if s = 0 then True else fitP b p P x
  | .both a b, s :: p, P, .pair x y => if s = 0 then fitP a p P x else fitP b p P y
  | _, _ :: _, _, _ => False
theorem fitP_nil (k : Kd) (P : Th → Prop) (t : Th) : fitP k [] P t = P t := by simp only [fitP]
theorem appT_nil (k : Kd) (f : Th → Th) (t : Th) : appT k [] f t = f t := by simp only [appT]
theorem fits_part (z : Sz) : ∀ (p : List Int) (k x : Kd) (t : Th), partK k p = some x → fits z k t → fitP k p (fits z x) t
  | [], k, x, t, h, hf => by simp only [partK] at h; cases h; rw [fitP_nil]; exact hf
  | s :: p, k, x, t, h, hf => by
    simp only [partK] at h
    cases k with
    | either a b =>
      simp only [stepK] at h
      rcases fits_either hf with ⟨u, rfl, hu⟩ | ⟨u, rfl, hu⟩
      · unfold fitP
        split
        · rename_i h0; rw [if_pos h0] at h; exact fits_part z p a x u h hu
        · trivial
      · unfold fitP
        split
        · trivial
        · rename_i h0
          rw [if_neg h0] at h
          split at h
          · exact fits_part z p b x u h hu
          · cases h
    | both a b =>
      simp only [stepK] at h
      obtain ⟨u, v, rfl, hu, hv⟩ := fits_both hf
      unfold fitP
      split
      · rename_i h0; rw [if_pos h0] at h; exact fits_part z p a x u h hu
      · rename_i h0
        rw [if_neg h0] at h
        split at h
        · exact fits_part z p b x v h hv
        · cases h
    | none => cases h
    | one => cases h
    | name _ => cases h
theorem appT_fit (f : Th → Th) (P P' : Th → Prop) (hf : ∀ t, P t → P' (f t)) : ∀ (p : List Int) (k : Kd) (t : Th), fitP k p P t → fitP k p P' (appT k p f t)
  | [], k, t, h => by rw [fitP_nil] at h ⊢; rw [appT_nil]; exact hf t h
  | s :: p, k, t, h => by
    cases k with
    | either a b =>
      cases t with
      | left x =>
        simp only [appT]
        by_cases h0 : s = 0
        · simp only [fitP, if_pos h0] at h ⊢; exact appT_fit f P P' hf p a x h
        · simp only [fitP, if_neg h0]
      | right x =>
        simp only [appT]
        by_cases h0 : s = 0
        · simp only [fitP, if_pos h0]
        · simp only [fitP, if_neg h0] at h ⊢; exact appT_fit f P P' hf p b x h
      | unit => exact h.elim
      | num _ => exact h.elim
      | pair _ _ => exact h.elim
    | both a b =>
      cases t with
      | pair x y =>
        simp only [appT]
        by_cases h0 : s = 0
        · simp only [fitP, if_pos h0] at h ⊢; exact appT_fit f P P' hf p a x h
        · simp only [fitP, if_neg h0] at h ⊢; exact appT_fit f P P' hf p b y h
      | unit => exact h.elim
      | num _ => exact h.elim
      | left _ => exact h.elim
      | right _ => exact h.elim
    | none => cases t <;> exact h.elim
    | one => cases t <;> exact h.elim
    | name _ => cases t <;> exact h.elim
theorem appT_back (f g : Th → Th) (P : Th → Prop) (hf : ∀ t, P t → g (f t) = t) : ∀ (p : List Int) (k : Kd) (t : Th), fitP k p P t → appT k p g (appT k p f t) = t
  | [], k, t, h => by rw [fitP_nil] at h; rw [appT_nil, appT_nil]; exact hf t h
  | s :: p, k, t, h => by
    cases k with
    | either a b =>
      cases t with
      | left x =>
        by_cases h0 : s = 0
        · simp only [fitP, if_pos h0] at h; simp only [appT, if_pos h0, appT_back f g P hf p a x h]
        · simp only [appT, if_neg h0]
      | right x =>
        by_cases h0 : s = 0
        · simp only [appT, if_pos h0]
        · simp only [fitP, if_neg h0] at h; simp only [appT, if_neg h0, appT_back f g P hf p b x h]
      | unit => exact h.elim
      | num _ => exact h.elim
      | pair _ _ => exact h.elim
    | both a b =>
      cases t with
      | pair x y =>
        by_cases h0 : s = 0
        · simp only [fitP, if_pos h0] at h; simp only [appT, if_pos h0, appT_back f g P hf p a x h]
        · simp only [fitP, if_neg h0] at h; simp only [appT, if_neg h0, appT_back f g P hf p b y h]
      | unit => exact h.elim
      | num _ => exact h.elim
      | left _ => exact h.elim
      | right _ => exact h.elim
    | none => cases t <;> exact h.elim
    | one => cases t <;> exact h.elim
    | name _ => cases t <;> exact h.elim
/-- what the turning makes of a thing of its part is led back -/
theorem bwd_fwd {z : Sz} {w : Str} {x y : Kd} {t : Th} (h : hereK w x = some y) (hf : fits z x t) : bwdH w x (fwdH w x t) = t := by
  rcases word5 w with rfl | rfl | rfl | rfl | hno
  · simp only [fwdH, bwdH, beq_self_eq_true, if_true]
    cases t <;> rfl
  · rw [here_group] at h
    simp only [fwdH, bwdH, v04, Bool.false_eq_true, if_false, beq_self_eq_true, if_true]
    unfold groupK at h
    split at h
    · rcases fits_either hf with ⟨u, rfl, hu⟩ | ⟨u, rfl, hu⟩
      · rcases fits_either hu with ⟨v, rfl, hv⟩ | ⟨v, rfl, hv⟩ <;> rfl
      · rfl
    · obtain ⟨u, v, rfl, hu, hv⟩ := fits_both hf
      obtain ⟨u1, u2, rfl, _, _⟩ := fits_both hu
      rfl
    · cases h
  · rw [here_spread] at h
    simp only [fwdH, bwdH, v07, v08, Bool.false_eq_true, if_false, beq_self_eq_true, if_true]
    unfold spreadK at h
    split at h
    · obtain ⟨u, v, rfl, hu, hv⟩ := fits_both hf
      rcases fits_either hv with ⟨q, rfl, _⟩ | ⟨q, rfl, _⟩ <;> rfl
    · cases h
  · rw [here_drop] at h
    simp only [fwdH, bwdH, v10, v11, v12, Bool.false_eq_true, if_false]
    unfold dropK at h
    split at h
    · rcases fits_either hf with ⟨u, rfl, hu⟩ | ⟨u, rfl, hu⟩
      · exact (fits_none hu).elim
      · rfl
    · obtain ⟨u, v, rfl, hu, hv⟩ := fits_both hf
      exact (fits_none hu).elim
    · obtain ⟨u, v, rfl, hu, hv⟩ := fits_both hf
      rw [fits_one hu]
    · cases h
  · rw [here_no w x hno] at h; cases h
end KT
set_option Elab.async false
set_option linter.all false
set_option maxRecDepth 100000
namespace KT
open PySem
def paBody : FS := (sSeq (sIf (eOr (eNotIn (eIx (eVar 3) (eC (.int 0))) (eTup [(eC (.str "either")), (eC (.str "both"))])) (eNotIn (eVar 4) (eTup [(eC (.int 0)), (eC (.int 1))]))) (sRaise 2) sNext) (sSeq (sSet 3 (eIx (eVar 3) (eAdd (eC (.int 1)) (eVar 4)))) (sAppend 2 (eVar 3))))
theorem pa_step (k : Kd) (s : Int) (xs : List PyData) (x0 x1 : Option Slot) (hx : xs.length ≤ 1000) :
    match stepK k s with
    | some c => paBody [x0, x1, some (.own xs), some (.loc (enc k)), some (.loc (.int s))] = some (.next [x0, x1, some (.own (xs ++ [enc c])), some (.loc (enc c)), some (.loc (.int s))])
    | none => ∃ ρ, paBody [x0, x1, some (.own xs), some (.loc (enc k)), some (.loc (.int s))] = some (.exc 2 ρ) := by
  have hb : xs.length < big := by unfold big; omega
  have hw := notIn_w (hd k) (hd_ok k)
  rw [hd_in] at hw
  cases hs : stepK k s with
  | some c =>
    obtain ⟨h1, h2, h3, _⟩ := step_ix hs
    have h4 : (0 == s || 1 == s) = true := by rcases h3 with rfl | rfl <;> rfl
    simp only
    simp only [paBody, sSeq, sIf, eOr, eNotIn, e2, eIx, eVar, eC, bindE, bindS, enc_hd, eTup, eArgs, bindI, hw, h2, notIn_s, h4, sNext, sSet, eAdd, dAdd, h1, Option.map, asg_lf (enc_lf _), Bool.not_true, List.getElem?_cons_succ, List.getElem?_cons_zero, List.set_cons_succ, List.set_cons_zero, sAppend, enc_lf, Bool.true_and, decide_eq_true hb, if_true]
  | none =>
    simp only
    cases hi : inn k with
    | false =>
      rw [hi] at hw
      exact ⟨_, by simp only [paBody, sSeq, sIf, eOr, eNotIn, e2, eIx, eVar, eC, bindE, bindS, enc_hd, eTup, eArgs, bindI, hw, Option.map, Bool.not_false, List.getElem?_cons_succ, List.getElem?_cons_zero, sRaise]; rfl⟩
    | true =>
      rw [hi] at hw
      obtain ⟨a, b, e, hst, _⟩ := enc_inn hi
      rw [hst] at hs
      have h4 : (0 == s || 1 == s) = false := by
        split at hs
        · cases hs
        · split at hs
          · cases hs
          · simp; omega
      exact ⟨_, by simp only [paBody, sSeq, sIf, eOr, eNotIn, e2, eIx, eVar, eC, bindE, bindS, enc_hd, eTup, eArgs, bindI, hw, notIn_s, h4, Option.map, Bool.not_false, Bool.not_true, List.getElem?_cons_succ, List.getElem?_cons_zero, sRaise]; rfl⟩
theorem pa_loop (x0 x1 : Option Slot) : ∀ (p : List Int) (k : Kd) (xs : List PyData) (x4 : Option Slot), xs.length + p.length ≤ 1000 →
    match alongT k p with
    | some t => ∃ x3' x4', forGo (tgName 4) paBody (p.map .int) [x0, x1, some (.own xs), some (.loc (enc k)), x4] = some (.next [x0, x1, some (.own (xs ++ t.map enc)), x3', x4'])
    | none => ∃ ρ, forGo (tgName 4) paBody (p.map .int) [x0, x1, some (.own xs), some (.loc (enc k)), x4] = some (.exc 2 ρ)
  | [], k, xs, x4, _ => by simp only [alongT]; exact ⟨_, _, by simp [forGo]; exact ⟨rfl, rfl⟩⟩
  | s :: p, k, xs, x4, hx => by
    simp only [List.length_cons] at hx
    have h := pa_step k s xs x0 x1 (by omega)
    simp only [alongT]
    cases hs : stepK k s with
    | none =>
      rw [hs] at h
      obtain ⟨ρ, h⟩ := h
      exact ⟨ρ, for_exc (tg := tgName 4) (d := .int s) rfl h⟩
    | some c =>
      rw [hs] at h
      simp only at h
      have e : forGo (tgName 4) paBody ((s :: p).map .int) [x0, x1, some (.own xs), some (.loc (enc k)), x4] = forGo (tgName 4) paBody (p.map .int) _ := for_next (tg := tgName 4) (d := .int s) rfl h
      rw [e]
      have r := pa_loop x0 x1 p c (xs ++ [enc c]) (some (.loc (.int s))) (by simp; omega)
      simp only [Option.bind_some]
      cases ht : alongT c p with
      | none => rw [ht] at r; simpa using r
      | some t => rw [ht] at r; simpa using r
theorem along_ok (n : Nat) (k : Kd) (p : List Int) (hp : p.length ≤ 900) : m_parts_along (n + 1) [enc k, encP p] = match alongT k p with
    | some t => some (.ok (.list ((k :: t).map enc)))
    | none => some (.exc 2) := by
  have e : b_parts_along = sSeq (sSet 2 (eLst [(eVar 0)])) (sSeq (sSet 3 (eVar 0)) (sSeq (sForV 1 (tgName 4) paBody) (sRet (eVar 2)))) := rfl
  show runB 5 b_parts_along [enc k, encP p] = _
  rw [e]
  have h := pa_loop (some (.par (enc k))) (some (.par (encP p))) p k [enc k] none (by simp; omega)
  cases q : alongT k p with
  | none =>
    rw [q] at h
    obtain ⟨ρ, h⟩ := h
    simp only [encP] at h
    simp [runB, sSeq, sSet, eLst, eArgs, bindI, eVar, bindS, asg, lf, lfs, enc_lf, sForV, encP, lfs_ints, h]
  | some t =>
    rw [q] at h
    obtain ⟨x3, x4, h⟩ := h
    simp only [encP] at h
    simp [runB, sSeq, sSet, eLst, eArgs, bindI, eVar, bindS, asg, lf, lfs, enc_lf, sForV, encP, lfs_ints, h, sRet]
end KT
set_option Elab.async false
set_option linter.all false
set_option maxRecDepth 100000
namespace KT
open PySem
def restG : FS := (sSeq (sIf (eEq (eVar 0) (eC (.str "swap"))) (sRet (eC (.bool true))) sNext) (sSeq (sIf (eEq (eVar 0) (eC (.str "group"))) (sRet (eEq (eVar 3) (eVar 2))) sNext) (sSeq (sIf (eEq (eVar 0) (eC (.str "spread"))) (sRet (eAnd (eEq (eVar 2) (eC (.str "both"))) (eEq (eIx (eIx (eVar 1) (eC (.int 2))) (eC (.int 0))) (eC (.str "either"))))) sNext) (sRet (eAnd (eEq (eVar 0) (eC (.str "drop"))) (eOr (eEq (eVar 3) (eC (.str "none"))) (eAnd (eEq (eVar 2) (eC (.str "both"))) (eEq (eVar 3) (eC (.str "one"))))))))))
theorem goes_ok (n : Nat) (w : Str) (k : Kd) : m_goes (n + 1) [.str w, enc k] = some (.ok (.bool (hereK w k).isSome)) := by
  show runB 4 b_goes [.str w, enc k] = _
  have hw := notIn_w (hd k) (hd_ok k)
  rw [hd_in] at hw
  have eb : b_goes = sSeq (sSet 2 (eIx (eVar 1) (eC (.int 0)))) (sSeq (sIf (eNotIn (eVar 2) (eTup [(eC (.str "either")), (eC (.str "both"))])) (sRet (eC (.bool false))) sNext) (sSeq (sSet 3 (eIx (eIx (eVar 1) (eC (.int 1))) (eC (.int 0)))) restG)) := rfl
  have st : ∀ T : FS, sSeq (sSet 2 (eIx (eVar 1) (eC (.int 0)))) T [some (.par (.str w)), some (.par (enc k)), none, none] = T [some (.par (.str w)), some (.par (enc k)), some (.loc (.str (hd k))), none] := fun T => by
    refine seq_next ?_
    simp [sSet, eIx, e2, eVar, eC, bindE, bindS, enc_hd, asg_str]
  have tst : eNotIn (eVar 2) (eTup [(eC (.str "either")), (eC (.str "both"))]) [some (.par (.str w)), some (.par (enc k)), some (.loc (.str (hd k))), none] = some (.ok 2 (.bool (!inn k))) := by
    simp only [eNotIn, e2, eVar, eTup, eArgs, eC, bindI, bindE, hw, List.getElem?_cons_succ, List.getElem?_cons_zero, Option.map, if_true]
  refine run_ret (b := b_goes) ?_
  rw [eb]
  refine (st _).trans ?_
  cases hi : inn k with
  | false =>
    rw [hi] at tst
    rw [if_retT tst, here_leaf w k hi]
    rfl
  | true =>
    rw [hi] at tst
    rw [if_retF tst]
    obtain ⟨a, b, e, hk⟩ : ∃ a b, enc k = .tuple [.str (hd k), enc a, enc b] ∧ (k = .either a b ∨ k = .both a b) := by
      cases k with
      | either a b => exact ⟨a, b, rfl, .inl rfl⟩
      | both a b => exact ⟨a, b, rfl, .inr rfl⟩
      | none => cases hi
      | one => cases hi
      | name _ => cases hi
    have d1 : dIx (enc k) (.int 1) = some (enc a) := by rw [e]; exact at_1 _ _ _
    have d2 : dIx (enc k) (.int 2) = some (enc b) := by rw [e]; exact at_2 _ _ _ _
    have s3 : ∀ T : FS, sSeq (sSet 3 (eIx (eIx (eVar 1) (eC (.int 1))) (eC (.int 0)))) T [some (.par (.str w)), some (.par (enc k)), some (.loc (.str (hd k))), none] = T [some (.par (.str w)), some (.par (enc k)), some (.loc (.str (hd k))), some (.loc (.str (hd a)))] := fun T => by
      refine seq_next ?_
      simp [sSet, eIx, e2, eVar, eC, bindE, bindS, d1, enc_hd, asg_str]
    refine (s3 _).trans ?_
    have v0 : eVar 0 [some (.par (.str w)), some (.par (enc k)), some (.loc (.str (hd k))), some (.loc (.str (hd a)))] = some (.ok 0 (.str w)) := rfl
    have v1 : eVar 1 [some (.par (.str w)), some (.par (enc k)), some (.loc (.str (hd k))), some (.loc (.str (hd a)))] = some (.ok 0 (enc k)) := rfl
    have v2 : eVar 2 [some (.par (.str w)), some (.par (enc k)), some (.loc (.str (hd k))), some (.loc (.str (hd a)))] = some (.ok 1 (.str (hd k))) := rfl
    have v3 : eVar 3 [some (.par (.str w)), some (.par (enc k)), some (.loc (.str (hd k))), some (.loc (.str (hd a)))] = some (.ok 1 (.str (hd a))) := rfl
    generalize [some (Slot.par (.str w)), some (.par (enc k)), some (.loc (.str (hd k))), some (.loc (.str (hd a)))] = R at v0 v1 v2 v3 ⊢
    have vC : ∀ s : Str, eC (.str s) R = some (.ok 2 (.str s)) := fun s => rfl
    have b0 := ixT (ixT v1 (i := 2) d2) (i := 0) (enc_hd b)
    unfold restG
    rcases word5 w with rfl | rfl | rfl | rfl | ⟨h1, h2, h3, h4⟩
    · rw [if_retT (eqT v0 (vC _) (beq_self_eq_true _)), here_swap]
      rcases hk with rfl | rfl <;> rfl
    · rw [if_retF (eqT v0 (vC _) v04), if_retT (eqT v0 (vC _) (beq_self_eq_true _)), here_group]
      have : (groupK k).isSome = (hd a == hd k) := by
        rcases hk with rfl | rfl
        · cases a <;> simp only [groupK, hd, Option.isSome, w13, w15, w17, w07] <;> simp
        · cases a <;> simp only [groupK, hd, Option.isSome, w14, w16, w18, w12] <;> simp
      rw [this]
      exact retT (eqT v3 v2 rfl) rfl
    · rw [if_retF (eqT v0 (vC _) v07), if_retF (eqT v0 (vC _) v08), if_retT (eqT v0 (vC _) (beq_self_eq_true _)), here_spread]
      have : (spreadK k).isSome = (hd k == "both" && hd b == "either") := by
        rcases hk with rfl | rfl
        · simp only [spreadK, hd, Option.isSome, w12, Bool.false_and]
        · cases b <;> simp only [spreadK, hd, Option.isSome, w13, w15, w17, w07] <;> simp
      rw [this]
      cases hb : hd k == "both" with
      | false => exact retT (andF (eqT v2 (vC _) hb)) rfl
      | true => exact retT ((andT (eqT v2 (vC _) hb)).trans (eqT b0 (vC _) (Bool.true_and _).symm)) rfl
    · rw [if_retF (eqT v0 (vC _) v10), if_retF (eqT v0 (vC _) v11), if_retF (eqT v0 (vC _) v12), here_drop]
      have : (dropK k).isSome = (hd a == "none" || (hd k == "both" && hd a == "one")) := by
        rcases hk with rfl | rfl
        · cases a <;> simp only [dropK, hd, Option.isSome, w01, w04, w08, w09, w12, Bool.false_and, Bool.or_false] <;> simp
        · cases a <;> simp only [dropK, hd, Option.isSome, w01, w02, w04, w05, w08, w09, w10, w11] <;> simp
      rw [this]
      refine retT ((andT (eqT v0 (vC _) (beq_self_eq_true _))).trans ?_) rfl (l := 2)
      cases ha : hd a == "none" with
      | true => exact orT (eqT v3 (vC _) ha)
      | false =>
        refine (orF (eqT v3 (vC _) ha)).trans ?_
        rw [Bool.false_or]
        cases hb : hd k == "both" with
        | false => exact andF (eqT v2 (vC _) hb)
        | true => exact (andT (eqT v2 (vC _) hb)).trans (eqT v3 (vC _) (Bool.true_and _).symm)
    · rw [if_retF (eqT v0 (vC _) h1), if_retF (eqT v0 (vC _) h2), if_retF (eqT v0 (vC _) h3), here_no w k ⟨h1, h2, h3, h4⟩]
      exact retT (andF (eqT v0 (vC _) h4)) rfl
end KT
set_option Elab.async false
set_option linter.all false
set_option maxRecDepth 100000
namespace KT
open PySem
theorem down_succ (n : Nat) : downFrom (n + 1) = .int n :: downFrom n := by
  unfold downFrom
  rw [List.range_succ_eq_map]
  simp only [List.map_cons, List.map_map]
  congr 1
  · simp
  · apply List.map_congr_left
    intro k _
    simp only [Function.comp]
    congr 1
    push_cast
    omega
theorem atP_nat' {α : Type} {xs : List α} {k : Nat} {v : α} (h : xs[k]? = some v) : atP xs (k : Int) = some v := by
  have hk : k < xs.length := (List.getElem?_eq_some_iff.mp h).1
  unfold atP ixP
  rw [if_pos (by omega), if_pos (by omega)]
  simpa using h
theorem lfs_encs : ∀ ks : List Kd, lfs (ks.map enc) = true
  | [] => rfl
  | k :: ks => by simp [lfs, enc_lf, lfs_encs ks]
theorem ptt_ok (n : Nat) (k : Kd) (w : Str) (p : List Int) (hp : p.length ≤ 900) : m_parts_to_turn (n + 2) [enc k, encT w p] = match alongT k p with
    | some t => if (hereK w ((k :: t).getLast (by simp))).isSome then some (.ok (.list ((k :: t).map enc))) else some (.exc 2)
    | none => some (.exc 2) := by
  show runB 3 (b_parts_to_turn (m_goes (n + 1)) (m_parts_along (n + 1))) [enc k, encT w p] = _
  have ha := along_ok n k p hp
  cases ht : alongT k p with
  | none =>
    rw [ht] at ha
    simp only at ha
    simp [runB, b_parts_to_turn, sSeq, sSet, eCall, eArgs, eVar, eIx, e2, eC, bindE, bindI, bindS, encT, at_1, ha, ofRC]
  | some t =>
    rw [ht] at ha
    simp only at ha
    have hg := goes_ok n w ((k :: t).getLast (by simp))
    have hl : dIx (.list (((k :: t) : List Kd).map enc)) (.int (-1)) = some (enc ((k :: t).getLast (by simp))) := atN _ _ (by rw [List.getLast?_map, List.getLast?_eq_getLast (l := k :: t) (by simp)]; rfl)
    have hf := lfs_encs (k :: t)
    simp only
    generalize hL : (k :: t).map enc = L at ha hl hf
    generalize hZ : (k :: t).getLast (by simp) = Z at hl hg
    cases hz : (hereK w Z).isSome with
    | true =>
      rw [hz] at hg
      simp [runB, b_parts_to_turn, sSeq, sSet, eCall, eArgs, eVar, eIx, e2, eC, bindE, bindI, bindS, encT, at_0, at_1, ha, ofRC, asg_own hf, sIf, eNot, eNeg, e1, dNeg, hl, hg, sNext, sRet]
    | false =>
      rw [hz] at hg
      simp [runB, b_parts_to_turn, sSeq, sSet, eCall, eArgs, eVar, eIx, e2, eC, bindE, bindI, bindS, encT, at_0, at_1, ha, ofRC, asg_own hf, sIf, eNot, eNeg, e1, dNeg, hl, hg, sNext, sRet, sRaise]
end KT
set_option Elab.async false
set_option linter.all false
set_option maxRecDepth 100000
namespace KT
open PySem
/-! ### the things along a path -/
/-- one step: the thing c within t, at the step s into the kind k -/
def stepT : Kd → Int → Th → Option Th
  | .either _ _, s, .left x => if s = 0 then some x else none
  | .either _ _, s, .right x => if s = 0 then none else some x
  | .both _ _, s, .pair x y => some (if s = 0 then x else y)
  | _, _, _ => none
def thT : Kd → List Int → Th → List Th
  | _, [], _ => []
  | k, s :: p, t => match stepK k s, stepT k s t with
    | some c, some u => u :: thT c p u
    | _, _ => []
def taBody : FS := (sSeq (sIf (eEq (eIx (eIx (eVar 0) (eVar 5)) (eC (.int 0))) (eC (.str "both"))) (sSet 4 (eIx (eVar 4) (eVar 6))) (sIf (eEq (eIx (eVar 4) (eC (.int 0))) (eIx (eC (.tuple [.str "left", .str "right"])) (eVar 6))) (sSet 4 (eIx (eVar 4) (eC (.int 1)))) (sRet (eVar 3)))) (sAppend 3 (eVar 4)))
theorem fitP_step {k c : Kd} {s : Int} {p : List Int} {P : Th → Prop} {t : Th} (hs : stepK k s = some c) (h : fitP k (s :: p) P t) :
    (∃ a b, k = .both a b ∧ ∃ x y, t = .pair x y ∧ stepT k s t = some (if s = 0 then x else y) ∧ fitP c p P (if s = 0 then x else y)) ∨
    (∃ a b, k = .either a b ∧ ((∃ x, t = .left x ∧ ((s = 0 ∧ stepT k s t = some x ∧ fitP c p P x) ∨ (s = 1 ∧ stepT k s t = none))) ∨ (∃ x, t = .right x ∧ ((s = 0 ∧ stepT k s t = none) ∨ (s = 1 ∧ stepT k s t = some x ∧ fitP c p P x))))) := by
  have h01 := (step_ix hs).2.2.1
  cases k with
  | both a b =>
    left
    cases t with
    | pair x y =>
      refine ⟨a, b, rfl, x, y, rfl, rfl, ?_⟩
      simp only [stepK] at hs
      simp only [fitP] at h
      rcases h01 with rfl | rfl
      · simp at hs h ⊢; subst hs; exact h
      · simp at hs h ⊢; subst hs; exact h
    | unit => exact h.elim
    | num _ => exact h.elim
    | left _ => exact h.elim
    | right _ => exact h.elim
  | either a b =>
    right
    refine ⟨a, b, rfl, ?_⟩
    cases t with
    | left x =>
      left
      refine ⟨x, rfl, ?_⟩
      simp only [stepK] at hs
      simp only [fitP] at h
      rcases h01 with rfl | rfl
      · simp at hs h; subst hs; exact .inl ⟨rfl, rfl, h⟩
      · exact .inr ⟨rfl, rfl⟩
    | right x =>
      right
      refine ⟨x, rfl, ?_⟩
      simp only [stepK] at hs
      simp only [fitP] at h
      rcases h01 with rfl | rfl
      · exact .inl ⟨rfl, rfl⟩
      · simp at hs h; subst hs; exact .inr ⟨rfl, rfl, h⟩
    | unit => exact h.elim
    | num _ => exact h.elim
    | pair _ _ => exact h.elim
  | none => cases hs
  | one => cases hs
  | name _ => cases hs
theorem side0 : dIx (.tuple [.str "left", .str "right"]) (.int 0) = some (.str "left") := rfl
theorem side1 : dIx (.tuple [.str "left", .str "right"]) (.int 1) = some (.str "right") := rfl
theorem ta_loop (L : List PyData) (x1 x2 : Option Slot) (P : Th → Prop) : ∀ (p : List Int) (k : Kd) (t : Th) (ts : List Kd) (acc : List PyData) (j : Nat) (x5 x6 : Option Slot), alongT k p = some ts → fitP k p P t →
    (∀ i kd, (k :: ts)[i]? = some kd → L[j + i]? = some (enc kd)) → acc.length + p.length ≤ 1000 →
    (∃ y4 y5 y6, forGo (tgPair 5 6) taBody (enumFrom j (p.map .int)) [some (.par (.list L)), x1, x2, some (.own acc), some (.loc (encTh t)), x5, x6] = some (.next [some (.par (.list L)), x1, x2, some (.own (acc ++ (thT k p t).map encTh)), y4, y5, y6]) ∧ (thT k p t).length = p.length) ∨
    (forGo (tgPair 5 6) taBody (enumFrom j (p.map .int)) [some (.par (.list L)), x1, x2, some (.own acc), some (.loc (encTh t)), x5, x6] = some (.ret (.list (acc ++ (thT k p t).map encTh))) ∧ (thT k p t).length < p.length)
  | [], k, t, ts, acc, j, x5, x6, _, _, _, _ => .inl ⟨_, x5, x6, by simp [enumFrom, forGo, thT]; rfl, by simp [thT]⟩
  | s :: p, k, t, ts, acc, j, x5, x6, ht, hf, hL, hlen => by
    simp only [List.length_cons] at hlen
    have hb : acc.length < big := by unfold big; omega
    simp only [alongT] at ht
    cases hs : stepK k s with
    | none => rw [hs] at ht; cases ht
    | some c =>
      rw [hs] at ht
      simp only [Option.bind_some] at ht
      cases hc : alongT c p with
      | none => rw [hc] at ht; cases ht
      | some ts' =>
        rw [hc] at ht
        cases ht
        have h0 : dIx (.list L) (.int (j : Int)) = some (enc k) := atP_nat' (by simpa using hL 0 k rfl)
        have hrest : ∀ i kd, (c :: ts')[i]? = some kd → L[(j + 1) + i]? = some (enc kd) := fun i kd h => by
          have := hL (i + 1) kd (by simpa using h)
          rwa [show j + 1 + i = j + (i + 1) by omega]
        have hhd := enc_hd k
        have step : ∀ u : Th, stepT k s t = some u → fitP c p P u →
            taBody [some (.par (.list L)), x1, x2, some (.own acc), some (.loc (encTh t)), some (.loc (.int (j : Int))), some (.loc (.int s))] = some (.next [some (.par (.list L)), x1, x2, some (.own (acc ++ [encTh u])), some (.loc (encTh u)), some (.loc (.int (j : Int))), some (.loc (.int s))]) →
            (∃ y4 y5 y6, forGo (tgPair 5 6) taBody (enumFrom j ((s :: p).map .int)) [some (.par (.list L)), x1, x2, some (.own acc), some (.loc (encTh t)), x5, x6] = some (.next [some (.par (.list L)), x1, x2, some (.own (acc ++ (thT k (s :: p) t).map encTh)), y4, y5, y6]) ∧ (thT k (s :: p) t).length = (s :: p).length) ∨
            (forGo (tgPair 5 6) taBody (enumFrom j ((s :: p).map .int)) [some (.par (.list L)), x1, x2, some (.own acc), some (.loc (encTh t)), x5, x6] = some (.ret (.list (acc ++ (thT k (s :: p) t).map encTh))) ∧ (thT k (s :: p) t).length < (s :: p).length) := fun u hu hfu e => by
          have e1' : thT k (s :: p) t = u :: thT c p u := by simp only [thT, hs, hu]
          have go : forGo (tgPair 5 6) taBody (enumFrom j ((s :: p).map .int)) [some (.par (.list L)), x1, x2, some (.own acc), some (.loc (encTh t)), x5, x6] = forGo (tgPair 5 6) taBody (enumFrom (j + 1) (p.map .int)) _ := for_next (tg := tgPair 5 6) (d := .tuple [.int (j : Int), .int s]) rfl e
          rw [go, e1']
          rcases ta_loop L x1 x2 P p c u ts' (acc ++ [encTh u]) (j + 1) (some (.loc (.int (j : Int)))) (some (.loc (.int s))) hc hfu hrest (by simp; omega) with ⟨y4, y5, y6, q, l⟩ | ⟨q, l⟩
          · exact .inl ⟨y4, y5, y6, by rw [q]; simp, by simp [l]⟩
          · exact .inr ⟨by rw [q]; simp, by simp; omega⟩
        have stop : stepT k s t = none → taBody [some (.par (.list L)), x1, x2, some (.own acc), some (.loc (encTh t)), some (.loc (.int (j : Int))), some (.loc (.int s))] = some (.ret (.list acc)) →
            (forGo (tgPair 5 6) taBody (enumFrom j ((s :: p).map .int)) [some (.par (.list L)), x1, x2, some (.own acc), some (.loc (encTh t)), x5, x6] = some (.ret (.list (acc ++ (thT k (s :: p) t).map encTh))) ∧ (thT k (s :: p) t).length < (s :: p).length) := fun hu e => by
          have e1' : thT k (s :: p) t = [] := by simp only [thT, hs, hu]
          rw [e1']
          refine ⟨?_, by simp⟩
          have go : forGo (tgPair 5 6) taBody (enumFrom j ((s :: p).map .int)) [some (.par (.list L)), x1, x2, some (.own acc), some (.loc (encTh t)), x5, x6] = _ := for_ret (tg := tgPair 5 6) (d := .tuple [.int (j : Int), .int s]) rfl e
          rw [go]
          simp
        rcases fitP_step hs hf with ⟨a, b, rfl, x, y, rfl, hu, hfu⟩ | ⟨a, b, rfl, ⟨x, rfl, h | h⟩ | ⟨x, rfl, h | h⟩⟩
        · refine step _ hu hfu ?_
          have h01 := (step_ix hs).2.2.1
          rcases h01 with rfl | rfl
          · simp [taBody, sSeq, sIf, eEq, e2, eIx, eVar, eC, bindE, bindS, h0, hhd, hd, eqSS, sSet, encTh, at_0, asg_lf, th_lf, sAppend, hb]
          · simp [taBody, sSeq, sIf, eEq, e2, eIx, eVar, eC, bindE, bindS, h0, hhd, hd, eqSS, sSet, encTh, at_1, asg_lf, th_lf, sAppend, hb]
        · obtain ⟨rfl, hu, hfu⟩ := h
          refine step _ hu hfu ?_
          simp [taBody, sSeq, sIf, eEq, e2, eIx, eVar, eC, bindE, bindS, h0, hhd, hd, eqSS, w12, side0, sSet, encTh, at_0, at_1, asg_lf, th_lf, sAppend, hb]
        · obtain ⟨rfl, hu⟩ := h
          refine .inr (stop hu ?_)
          simp [taBody, sSeq, sIf, eEq, e2, eIx, eVar, eC, bindE, bindS, h0, hhd, hd, eqSS, w12, side1, wlr, encTh, at_0, at_1, sRet]
        · obtain ⟨rfl, hu⟩ := h
          refine .inr (stop hu ?_)
          simp [taBody, sSeq, sIf, eEq, e2, eIx, eVar, eC, bindE, bindS, h0, hhd, hd, eqSS, w12, side0, wrl, encTh, at_0, at_1, sRet]
        · obtain ⟨rfl, hu, hfu⟩ := h
          refine step _ hu hfu ?_
          simp [taBody, sSeq, sIf, eEq, e2, eIx, eVar, eC, bindE, bindS, h0, hhd, hd, eqSS, w12, side1, sSet, encTh, at_0, at_1, asg_lf, th_lf, sAppend, hb]
theorem things_along_ok (n : Nat) (k : Kd) (t : Th) (p : List Int) (ts : List Kd) (P : Th → Prop) (ht : alongT k p = some ts) (hf : fitP k p P t) (hp : p.length ≤ 900) :
    m_things_along (n + 1) [.list ((k :: ts).map enc), encP p, encTh t] = some (.ok (.list ((t :: thT k p t).map encTh))) := by
  have e : b_things_along = sSeq (sSet 3 (eLst [(eVar 2)])) (sSeq (sSet 4 (eVar 2)) (sSeq (sForET 1 (tgPair 5 6) taBody) (sRet (eVar 3)))) := rfl
  show runB 7 b_things_along [.list ((k :: ts).map enc), encP p, encTh t] = _
  rw [e]
  have h := ta_loop ((k :: ts).map enc) (some (.par (encP p))) (some (.par (encTh t))) P p k t ts [encTh t] 0 none none ht hf (fun i kd h => by rw [Nat.zero_add, List.getElem?_map, h]; rfl) (by simp; omega)
  generalize (k :: ts).map enc = L at h
  simp only [encP] at h
  rcases h with ⟨y4, y5, y6, q, _⟩ | ⟨q, _⟩
  · simp [runB, sSeq, sSet, eLst, eArgs, bindI, eVar, bindS, asg, lf, lfs, th_lf, sForET, encP, lfs_ints, q, sRet]
  · simp [runB, sSeq, sSet, eLst, eArgs, bindI, eVar, bindS, asg, lf, lfs, th_lf, sForET, encP, lfs_ints, q, sRet]
end KT
set_option Elab.async false
set_option linter.all false
set_option maxRecDepth 100000
namespace KT
open PySem
theorem thT_get (P : Th → Prop) : ∀ (p : List Int) (k : Kd) (t : Th) (ts : List Kd) (j : Nat), alongT k p = some ts → (thT k p t).length = p.length → j < p.length →
    ∃ kj s kc tj tc, (k :: ts)[j]? = some kj ∧ p[j]? = some s ∧ (k :: ts)[j + 1]? = some kc ∧ stepK kj s = some kc ∧ (t :: thT k p t)[j]? = some tj ∧ (t :: thT k p t)[j + 1]? = some tc ∧ stepT kj s tj = some tc
  | [], k, t, ts, j, _, _, hj => by simp at hj
  | s :: p, k, t, ts, j, ht, hl, hj => by
    simp only [alongT] at ht
    cases hs : stepK k s with
    | none => rw [hs] at ht; cases ht
    | some c =>
      rw [hs] at ht
      simp only [Option.bind_some] at ht
      cases hc : alongT c p with
      | none => rw [hc] at ht; cases ht
      | some ts' =>
        rw [hc] at ht
        cases ht
        cases hu : stepT k s t with
        | none => simp [thT, hs, hu] at hl
        | some u =>
          have e : thT k (s :: p) t = u :: thT c p u := by simp only [thT, hs, hu]
          rw [e] at hl ⊢
          cases j with
          | zero => exact ⟨k, s, c, t, u, rfl, rfl, rfl, hs, rfl, rfl, hu⟩
          | succ j =>
            obtain ⟨kj, s', kc, tj, tc, h1, h2, h3, h4, h5, h6, h7⟩ := thT_get P p c u ts' j hc (by simpa using hl) (by simpa using hj)
            exact ⟨kj, s', kc, tj, tc, by simpa using h1, by simpa using h2, by simpa using h3, h4, by simpa using h5, by simpa using h6, h7⟩
theorem thT_last (P : Th → Prop) : ∀ (p : List Int) (k : Kd) (t : Th) (ts : List Kd), alongT k p = some ts → fitP k p P t → (thT k p t).length = p.length → ∃ u, (t :: thT k p t)[p.length]? = some u ∧ P u
  | [], k, t, ts, _, hf, _ => ⟨t, rfl, by rwa [fitP_nil] at hf⟩
  | s :: p, k, t, ts, ht, hf, hl => by
    simp only [alongT] at ht
    cases hs : stepK k s with
    | none => rw [hs] at ht; cases ht
    | some c =>
      rw [hs] at ht
      simp only [Option.bind_some] at ht
      cases hc : alongT c p with
      | none => rw [hc] at ht; cases ht
      | some ts' =>
        cases hu : stepT k s t with
        | none => simp [thT, hs, hu] at hl
        | some u =>
          have e : thT k (s :: p) t = u :: thT c p u := by simp only [thT, hs, hu]
          rw [e] at hl ⊢
          have hfu : fitP c p P u := by
            rcases fitP_step hs hf with ⟨a, b, rfl, x, y, rfl, h, hfu⟩ | ⟨a, b, rfl, ⟨x, rfl, h | h⟩ | ⟨x, rfl, h | h⟩⟩
            · rw [hu] at h; cases h; exact hfu
            · rw [hu] at h; cases h.2.1; exact h.2.2
            · rw [hu] at h; cases h.2
            · rw [hu] at h; cases h.2
            · rw [hu] at h; cases h.2.1; exact h.2.2
          obtain ⟨v, h1, h2⟩ := thT_last P p c u ts' hc hfu (by simpa using hl)
          exact ⟨v, by simpa using h1, h2⟩
theorem appT_stop (f : Th → Th) (P : Th → Prop) : ∀ (p : List Int) (k : Kd) (t : Th) (ts : List Kd), alongT k p = some ts → fitP k p P t → (thT k p t).length < p.length → appT k p f t = t
  | [], k, t, ts, _, _, hl => by simp at hl
  | s :: p, k, t, ts, ht, hf, hl => by
    simp only [alongT] at ht
    cases hs : stepK k s with
    | none => rw [hs] at ht; cases ht
    | some c =>
      rw [hs] at ht
      simp only [Option.bind_some] at ht
      cases hc : alongT c p with
      | none => rw [hc] at ht; cases ht
      | some ts' =>
        have h01 := (step_ix hs).2.2.1
        have reK : ∀ u, stepT k s t = some u → fitP c p P u → appT c p f u = u := fun u hu hfu => by
          have e : thT k (s :: p) t = u :: thT c p u := by simp only [thT, hs, hu]
          rw [e] at hl
          exact appT_stop f P p c u ts' hc hfu (by simpa using hl)
        rcases fitP_step hs hf with ⟨a, b, rfl, x, y, rfl, hu, hfu⟩ | ⟨a, b, rfl, ⟨x, rfl, h | h⟩ | ⟨x, rfl, h | h⟩⟩
        · have := reK _ hu hfu
          simp only [stepK] at hs
          rcases h01 with rfl | rfl
          · simp at hs this; subst hs; simp [appT, this]
          · simp at hs this; subst hs; simp [appT, this]
        · obtain ⟨rfl, hu, hfu⟩ := h
          have := reK _ hu hfu
          simp [stepK] at hs
          subst hs
          simp [appT, this]
        · obtain ⟨rfl, hu⟩ := h
          simp [appT]
        · obtain ⟨rfl, hu⟩ := h
          simp [appT]
        · obtain ⟨rfl, hu, hfu⟩ := h
          have := reK _ hu hfu
          simp [stepK] at hs
          subst hs
          simp [appT, this]
theorem appT_step (f : Th → Th) {k c : Kd} {s : Int} {t u : Th} (q : List Int) (hs : stepK k s = some c) (hu : stepT k s t = some u) :
    ∃ A B, encTh t = .tuple [A, B] ∧ lf A = true ∧ lf B = true ∧ encTh (appT k (s :: q) f t) = if (hd k == "both" && s == 0) = true then .tuple [encTh (appT c q f u), B] else .tuple [A, encTh (appT c q f u)] := by
  have h01 := (step_ix hs).2.2.1
  cases k with
  | both a b =>
    cases t with
    | pair x y =>
      refine ⟨_, _, rfl, th_lf _, th_lf _, ?_⟩
      simp only [stepK] at hs
      simp only [stepT] at hu
      rcases h01 with rfl | rfl
      · simp at hs hu; subst hs hu; simp [appT, hd, encTh]
      · simp at hs hu; subst hs hu; simp [appT, hd, encTh]
    | unit => cases hu
    | num _ => cases hu
    | left _ => cases hu
    | right _ => cases hu
  | either a b =>
    cases t with
    | left x =>
      refine ⟨_, _, rfl, rfl, th_lf _, ?_⟩
      simp only [stepK] at hs
      simp only [stepT] at hu
      rcases h01 with rfl | rfl
      · simp at hs hu; subst hs hu; simp [appT, hd, encTh, w12]
      · simp at hu
    | right x =>
      refine ⟨_, _, rfl, rfl, th_lf _, ?_⟩
      simp only [stepK] at hs
      simp only [stepT] at hu
      rcases h01 with rfl | rfl
      · simp at hu
      · simp at hs hu; subst hs hu; simp [appT, hd, encTh, w12]
    | unit => cases hu
    | num _ => cases hu
    | pair _ _ => cases hu
  | none => cases hs
  | one => cases hs
  | name _ => cases hs
def tbBody : FS := (sSeq (sSet 8 (eIx (eVar 5) (eVar 7))) (sSeq (sSet 9 (eAnd (eEq (eIx (eIx (eVar 0) (eVar 7)) (eC (.int 0))) (eC (.str "both"))) (eEq (eIx (eVar 4) (eVar 7)) (eC (.int 0))))) (sSet 6 (eIf (eVar 9) (eTup [(eVar 6), (eIx (eVar 8) (eC (.int 1)))]) (eTup [(eIx (eVar 8) (eC (.int 0))), (eVar 6)])))))
theorem tb_loop (f : Th → Th) (k : Kd) (t : Th) (p : List Int) (ts : List Kd) (ht : alongT k p = some ts) (hl : (thT k p t).length = p.length) (x1 x2 x3 : Option Slot) : ∀ (j : Nat) (kj : Kd) (tj : Th) (x7 x8 x9 : Option Slot), j ≤ p.length → (k :: ts)[j]? = some kj → (t :: thT k p t)[j]? = some tj →
    ∃ y7 y8 y9, forGo (tgName 7) tbBody (downFrom j) [some (.par (.list ((k :: ts).map enc))), x1, x2, x3, some (.loc (encP p)), some (.own ((t :: thT k p t).map encTh)), some (.loc (encTh (appT kj (p.drop j) f tj))), x7, x8, x9] =
      some (.next [some (.par (.list ((k :: ts).map enc))), x1, x2, x3, some (.loc (encP p)), some (.own ((t :: thT k p t).map encTh)), some (.loc (encTh (appT k p f t))), y7, y8, y9])
  | 0, kj, tj, x7, x8, x9, _, hk, hj => by
    simp at hk hj
    subst hk hj
    exact ⟨x7, x8, x9, rfl⟩
  | j + 1, kj, tj, x7, x8, x9, hjl, hk, hj => by
    obtain ⟨k0, s, kc, t0, tc, h1, h2, h3, h4, h5, h6, h7⟩ := thT_get (fun _ => True) p k t ts j ht hl (by omega)
    rw [hk] at h3
    rw [hj] at h6
    cases h3
    cases h6
    have hd' : p.drop j = s :: p.drop (j + 1) := by
      obtain ⟨hl, he⟩ := List.getElem?_eq_some_iff.mp h2
      rw [List.drop_eq_getElem_cons hl, he]
    obtain ⟨A, B, e1', la, lb, e2'⟩ := appT_step f (p.drop (j + 1)) h4 h7
    have q3 : dIx (.list ((k :: ts).map enc)) (.int (j : Int)) = some (enc k0) := atP_nat' (by rw [List.getElem?_map, h1]; rfl)
    have q4 : dIx (encP p) (.int (j : Int)) = some (.int s) := atP_nat' (by rw [List.getElem?_map, h2]; rfl)
    have q5 : dIx (.list ((t :: thT k p t).map encTh)) (.int (j : Int)) = some (encTh t0) := atP_nat' (by rw [List.getElem?_map, h5]; rfl)
    obtain ⟨y7, y8, y9, r⟩ := tb_loop f k t p ts ht hl x1 x2 x3 j k0 t0 (some (.loc (.int (j : Int)))) (some (.loc (encTh t0))) (some (.loc (.bool (hd k0 == "both" && s == 0)))) (by omega) h1 h5
    refine ⟨y7, y8, y9, ?_⟩
    rw [down_succ]
    rw [← r, hd', e2']
    have lf1 := th_lf t0
    rw [e1'] at q5 lf1
    have lf2 := th_lf (appT kj (p.drop (j + 1)) f tj)
    have hhd := enc_hd k0
    clear r
    generalize (k :: ts).map enc = L at q3 ⊢
    generalize (t :: thT k p t).map encTh = M at q5 ⊢
    generalize encTh (appT kj (p.drop (j + 1)) f tj) = E at lf2 ⊢
    refine for_next (ρ1 := [some (.par (.list L)), x1, x2, x3, some (.loc (encP p)), some (.own M), some (.loc E), some (.loc (.int (j : Int))), x8, x9]) rfl ?_
    have eb : ∀ (l : Nat) (b : Bool), asg l (.bool b) = some (.loc (.bool b)) := fun _ _ => rfl
    rw [e1']
    cases hb : hd k0 == "both" with
    | false => simp [tbBody, sSeq, sSet, eIx, e2, eVar, eC, bindE, bindS, q5, lf1, asg_lf, eAnd, eEq, q3, hhd, eqSS, hb, eb, eIf, eTup, eArgs, bindI, at_0, at_1, la, lb, lf2, lf, lfs]
    | true =>
      by_cases hs : s = 0
      · subst hs
        simp [tbBody, sSeq, sSet, eIx, e2, eVar, eC, bindE, bindS, q5, lf1, asg_lf, eAnd, eEq, q3, q4, hhd, eqSS, eqII, hb, eb, eIf, eTup, eArgs, bindI, at_0, at_1, la, lb, lf2, lf, lfs]
      · have hs' : (s == 0) = false := by simp [hs]
        simp [tbBody, sSeq, sSet, eIx, e2, eVar, eC, bindE, bindS, q5, lf1, asg_lf, eAnd, eEq, q3, q4, hhd, eqSS, eqII, hs, hs', hb, eb, eIf, eTup, eArgs, bindI, at_0, at_1, la, lb, lf2, lf, lfs]
theorem lfs_ths : ∀ ts : List Th, lfs (ts.map encTh) = true
  | [] => rfl
  | t :: ts => by simp [lfs, th_lf, lfs_ths ts]
theorem len_enc (ks : List Kd) : dLen (.list (ks.map enc)) = some (.int (ks.length : Int)) := by simp [dLen]
theorem len_ths (ks : List Th) : dLen (.list (ks.map encTh)) = some (.int (ks.length : Int)) := by simp [dLen]
theorem thing_by_ok (n : Nat) (f : Th → Th) (k : Kd) (t : Th) (w : Str) (p : List Int) (ts : List Kd) (P : Th → Prop) (a : Nat) (g : FC) (ht : alongT k p = some ts) (hf : fitP k p P t) (hp : p.length ≤ 900)
    (hg : List.lookup a [(A_forth_here, m_forth_here (n + 2)), (A_back_here, m_back_here (n + 2))] = some g) (hP : ∀ u, P u → g [.str w, enc ((k :: ts).getLast (by simp)), encTh u] = some (.ok (encTh (f u)))) :
    m_thing_by (n + 3) [.list ((k :: ts).map enc), encT w p, encTh t, fnD a] = some (.ok (encTh (appT k p f t))) := by
  have e : b_thing_by (m_forth_here (n + 2)) (m_back_here (n + 2)) (m_things_along (n + 2)) = (sSeq (sSet 4 (eIx (eVar 1) (eC (.int 1)))) (sSeq (sSet 5 (eCall (m_things_along (n + 2)) [(eVar 0), (eVar 4), (eVar 2)])) (sSeq (sIf (eLt (eLen (eVar 5)) (eLen (eVar 0))) (sRet (eVar 2)) sNext) (sSeq (sSet 6 (eCallV 3 [(A_forth_here, m_forth_here (n + 2)), (A_back_here, m_back_here (n + 2))] [(eIx (eVar 1) (eC (.int 0))), (eIx (eVar 0) (eNeg (eC (.int 1)))), (eIx (eVar 5) (eNeg (eC (.int 1))))])) (sSeq (sFor (iDown (eSub (eLen (eVar 4)) (eC (.int 1)))) (tgName 7) tbBody) (sRet (eVar 6))))))) := rfl
  show runB 10 (b_thing_by (m_forth_here (n + 2)) (m_back_here (n + 2)) (m_things_along (n + 2))) [.list ((k :: ts).map enc), encT w p, encTh t, fnD a] = _
  rw [e]
  have ha := things_along_ok (n + 1) k t p ts P ht hf hp
  have hlen := along_len p k ts ht
  have hle : (thT k p t).length ≤ p.length := by
    clear hP hg ha e hf hp hlen
    induction p generalizing k t ts with
    | nil => simp [thT]
    | cons s p ih =>
      simp only [alongT] at ht
      cases hs : stepK k s with
      | none => rw [hs] at ht; cases ht
      | some c =>
        rw [hs] at ht
        simp only [Option.bind_some] at ht
        cases hc : alongT c p with
        | none => rw [hc] at ht; cases ht
        | some ts' =>
          cases hu : stepT k s t with
          | none => simp [thT, hs, hu]
          | some u => have := ih c u ts' hc; simp [thT, hs, hu]; exact this
  have l1 := len_enc (k :: ts)
  have l2 := len_ths (t :: thT k p t)
  have hM := lfs_ths (t :: thT k p t)
  by_cases hlt : (thT k p t).length < p.length
  · rw [appT_stop f P p k t ts ht hf hlt]
    have hc : ((((t :: thT k p t).length : Nat) : Int) < (((k :: ts).length : Nat) : Int)) := by simp only [List.length_cons]; omega
    generalize (k :: ts).map enc = L at ha l1
    generalize (t :: thT k p t).map encTh = M at ha l2 hM
    have hlp := lf_path p
    generalize (((t :: thT k p t).length : Nat) : Int) = i1 at l2 hc
    generalize (((k :: ts).length : Nat) : Int) = i2 at l1 hc
    simp [runB, sSeq, sSet, eIx, e2, eVar, eC, bindE, bindS, encT, at_1, asg_lf, hlp, eCall, eArgs, bindI, ha, ofRC, asg_own hM, sIf, eLt, eLen, e1, l1, l2, dLt, hc, sRet, th_lf]
  · have hcl : (thT k p t).length = p.length := by omega
    obtain ⟨u, hu, hPu⟩ := thT_last P p k t ts ht hf hcl
    have hgu := hP u hPu
    have hc : ¬ ((((t :: thT k p t).length : Nat) : Int) < (((k :: ts).length : Nat) : Int)) := by simp only [List.length_cons]; omega
    have hlast : (k :: ts)[p.length]? = some ((k :: ts).getLast (by simp)) := by
      rw [← hlen, ← List.getLast?_eq_getLast, List.getLast?_eq_getElem?]; simp
    have z1 : dIx (.list (((k :: ts) : List Kd).map enc)) (.int (-1)) = some (enc ((k :: ts).getLast (by simp))) := atN _ _ (by rw [List.getLast?_map, List.getLast?_eq_getLast (l := k :: ts) (by simp)]; rfl)
    have z2 : dIx (.list ((t :: thT k p t).map encTh)) (.int (-1)) = some (encTh u) := atN _ _ (by rw [List.getLast?_map, List.getLast?_eq_getElem?, show (t :: thT k p t).length - 1 = p.length by simp [hcl], hu]; rfl)
    obtain ⟨y7, y8, y9, r⟩ := tb_loop f k t p ts ht hcl (some (.par (encT w p))) (some (.par (encTh t))) (some (.par (fnD a))) p.length _ u none none none (Nat.le_refl _) hlast hu
    rw [List.drop_length, appT_nil] at r
    have hb : ((p.length : Int) - 1).natAbs ≤ big := by unfold big; omega
    have hn : ((p.length : Int) - 1 + 1).toNat = p.length := by omega
    have hlenP : dLen (encP p) = some (.int (p.length : Int)) := by simp [dLen, encP]
    have hlp := lf_path p
    generalize (k :: ts).map enc = L at ha l1 z1 r
    generalize (t :: thT k p t).map encTh = M at ha l2 hM z2 r
    generalize (((t :: thT k p t).length : Nat) : Int) = i1 at l2 hc
    generalize (((k :: ts).length : Nat) : Int) = i2 at l1 hc
    generalize enc ((k :: ts).getLast (by simp)) = Z at z1 hgu
    simp only [encT, fnD] at r
    simp [runB, sSeq, sSet, eIx, e2, eVar, eC, bindE, bindS, encT, at_0, at_1, asg_lf, hlp, eCall, eArgs, bindI, ha, ofRC, asg_own hM, sIf, eLt, eLen, e1, l1, l2, dLt, hc, sNext, sRet, th_lf, eCallV, fnD, hg, eNeg, dNeg, z1, z2, hgu, sFor, iDown, eSub, hlenP, subII, hb, hn, r]
end KT
set_option Elab.async false
set_option linter.all false
set_option maxRecDepth 100000
namespace KT
open PySem
theorem crossed_ok (n : Nat) (a b c : PyData) (ha : lf a = true) (hb : lf b = true) (hc : lf c = true) : m_crossed (n + 1) [.tuple [a, .tuple [b, c]]] = some (.ok (.tuple [b, .tuple [a, c]])) := by
  show runB 1 b_crossed _ = _
  simp [runB, b_crossed, sRet, eTup, eArgs, eIx, e2, eVar, eC, bindI, bindE, bindS, at_0, at_1, lf, lfs, ha, hb, hc]
theorem gpair_ok (n : Nat) (a b c : PyData) (ha : lf a = true) (hb : lf b = true) (hc : lf c = true) : m_grouped_pair (n + 1) [.tuple [.tuple [a, b], c]] = some (.ok (.tuple [a, .tuple [b, c]])) := by
  show runB 1 b_grouped_pair _ = _
  simp [runB, b_grouped_pair, sRet, eTup, eArgs, eIx, e2, eVar, eC, bindI, bindE, bindS, at_0, at_1, lf, lfs, ha, hb, hc]
theorem upair_ok (n : Nat) (a b c : PyData) (ha : lf a = true) (hb : lf b = true) (hc : lf c = true) : m_ungrouped_pair (n + 1) [.tuple [a, .tuple [b, c]]] = some (.ok (.tuple [.tuple [a, b], c])) := by
  show runB 1 b_ungrouped_pair _ = _
  simp [runB, b_ungrouped_pair, sRet, eTup, eArgs, eIx, e2, eVar, eC, bindI, bindE, bindS, at_0, at_1, lf, lfs, ha, hb, hc]
theorem swapP_ok (n : Nat) (a b : PyData) (ha : lf a = true) (hb : lf b = true) : m_swapped (n + 1) [.bool true, .tuple [a, b]] = some (.ok (.tuple [b, a])) := by
  show runB 2 b_swapped _ = _
  simp [runB, b_swapped, sSeq, sIf, sRet, eTup, eArgs, eIx, e2, eVar, eC, bindI, bindE, bindS, at_0, at_1, lf, lfs, ha, hb]
theorem swapL_ok (n : Nat) (a : PyData) (ha : lf a = true) : m_swapped (n + 1) [.bool false, .tuple [.str "left", a]] = some (.ok (.tuple [.str "right", a])) := by
  show runB 2 b_swapped _ = _
  simp [runB, b_swapped, sSeq, sIf, sNext, sRet, eTup, eArgs, eIx, e2, eVar, eC, eIf, eEq, eqSS, bindI, bindE, bindS, at_0, at_1, lf, lfs, ha]
theorem swapR_ok (n : Nat) (a : PyData) (ha : lf a = true) : m_swapped (n + 1) [.bool false, .tuple [.str "right", a]] = some (.ok (.tuple [.str "left", a])) := by
  show runB 2 b_swapped _ = _
  simp [runB, b_swapped, sSeq, sIf, sNext, sRet, eTup, eArgs, eIx, e2, eVar, eC, eIf, eEq, eqSS, wrl, bindI, bindE, bindS, at_0, at_1, lf, lfs, ha]
theorem gsideR_ok (n : Nat) (a : PyData) (ha : lf a = true) : m_grouped_side (n + 1) [.tuple [.str "right", a]] = some (.ok (.tuple [.str "right", .tuple [.str "right", a]])) := by
  show runB 2 b_grouped_side _ = _
  simp [runB, b_grouped_side, sSeq, sIf, sNext, sRet, eTup, eArgs, eIx, e2, eVar, eC, eIf, eEq, eqSS, bindI, bindE, bindS, at_0, at_1, lf, lfs, ha]
theorem gsideLL_ok (n : Nat) (a : PyData) (ha : lf a = true) : m_grouped_side (n + 1) [.tuple [.str "left", .tuple [.str "left", a]]] = some (.ok (.tuple [.str "left", a])) := by
  show runB 2 b_grouped_side _ = _
  simp [runB, b_grouped_side, sSeq, sIf, sNext, sSet, asg, sRet, eTup, eArgs, eIx, e2, eVar, eC, eIf, eEq, eqSS, wlr, bindI, bindE, bindS, at_0, at_1, lf, lfs, ha]
theorem gsideLR_ok (n : Nat) (a : PyData) (ha : lf a = true) : m_grouped_side (n + 1) [.tuple [.str "left", .tuple [.str "right", a]]] = some (.ok (.tuple [.str "right", .tuple [.str "left", a]])) := by
  show runB 2 b_grouped_side _ = _
  simp [runB, b_grouped_side, sSeq, sIf, sNext, sSet, asg, sRet, eTup, eArgs, eIx, e2, eVar, eC, eIf, eEq, eqSS, wlr, wrl, bindI, bindE, bindS, at_0, at_1, lf, lfs, ha]
theorem usideL_ok (n : Nat) (a : PyData) (ha : lf a = true) : m_ungrouped_side (n + 1) [.tuple [.str "left", a]] = some (.ok (.tuple [.str "left", .tuple [.str "left", a]])) := by
  show runB 2 b_ungrouped_side _ = _
  simp [runB, b_ungrouped_side, sSeq, sIf, sNext, sRet, eTup, eArgs, eIx, e2, eVar, eC, eIf, eEq, eqSS, bindI, bindE, bindS, at_0, at_1, lf, lfs, ha]
theorem usideRR_ok (n : Nat) (a : PyData) (ha : lf a = true) : m_ungrouped_side (n + 1) [.tuple [.str "right", .tuple [.str "right", a]]] = some (.ok (.tuple [.str "right", a])) := by
  show runB 2 b_ungrouped_side _ = _
  simp [runB, b_ungrouped_side, sSeq, sIf, sNext, sSet, asg, sRet, eTup, eArgs, eIx, e2, eVar, eC, eIf, eEq, eqSS, wrl, bindI, bindE, bindS, at_0, at_1, lf, lfs, ha]
theorem usideRL_ok (n : Nat) (a : PyData) (ha : lf a = true) : m_ungrouped_side (n + 1) [.tuple [.str "right", .tuple [.str "left", a]]] = some (.ok (.tuple [.str "left", .tuple [.str "right", a]])) := by
  show runB 2 b_ungrouped_side _ = _
  simp [runB, b_ungrouped_side, sSeq, sIf, sNext, sSet, asg, sRet, eTup, eArgs, eIx, e2, eVar, eC, eIf, eEq, eqSS, wlr, wrl, bindI, bindE, bindS, at_0, at_1, lf, lfs, ha]
theorem run4 {b : FS} {d0 d1 d2 r : PyData} (h : b [some (.par d0), some (.par d1), some (.par d2), none] = some (.ret r)) : runB 4 b [d0, d1, d2] = some (.ok r) := by
  show (match b [some (.par d0), some (.par d1), some (.par d2), none] with
    | some (.ret d) => some (RC.ok d)
    | some (.next _) => some (.ok .none)
    | some (.exc c _) => some (.exc c)
    | _ => none) = _
  rw [h]
theorem set_both {x : Kd} {w t : PyData} (T : FS) : sSeq (sSet 3 (eEq (eIx (eVar 1) (eC (.int 0))) (eC (.str "both")))) T [some (.par w), some (.par (enc x)), some (.par t), none] = T [some (.par w), some (.par (enc x)), some (.par t), some (.loc (.bool (hd x == "both")))] := by
  refine seq_next ?_
  simp [sSet, eEq, e2, eIx, eVar, eC, bindE, bindS, enc_hd, eqSS, asg_bool]
theorem ret_no (A : FE) (ρ ρ' : Rho) : sRet A ρ ≠ some (.next ρ') := by
  unfold sRet bindS
  split
  · simp
  · simp
  · dsimp only; split <;> simp
theorem if_word {w v : Str} {x1 x2 x3 : Option Slot} {A : FE} (T : FS) : sSeq (sIf (eEq (eVar 0) (eC (.str v))) (sRet A) sNext) T [some (.par (.str w)), x1, x2, x3] = if (w == v) = true then sRet A [some (.par (.str w)), x1, x2, x3] else T [some (.par (.str w)), x1, x2, x3] := by
  cases h : w == v <;> simp [sSeq, sIf, eEq, e2, eVar, eC, bindE, bindS, eqSS, h, sNext]
  have hn := ret_no A [some (.par (.str w)), x1, x2, x3]
  cases q : sRet A [some (.par (.str w)), x1, x2, x3] with
  | none => rfl
  | some r =>
    cases r with
    | next ρ' => exact absurd q (hn ρ')
    | ret _ => rfl
    | exc _ _ => rfl
    | brk _ => rfl
    | cont _ => rfl
theorem ret_call1 {g : FC} {ρ : Rho} {d r : PyData} (e : eVar 2 ρ = some (.ok 0 d)) (h : g [d] = some (.ok r)) (hl : lf r = true) : sRet (eCall g [(eVar 2)]) ρ = some (.ret r) := by
  simp [sRet, eCall, eArgs, e, bindI, bindS, h, ofRC, hl]
theorem ret_call2 {g : FC} {ρ : Rho} {b : Bool} {d r : PyData} (e3 : eVar 3 ρ = some (.ok 1 (.bool b))) (e : eVar 2 ρ = some (.ok 0 d)) (h : g [.bool b, d] = some (.ok r)) (hl : lf r = true) : sRet (eCall g [(eVar 3), (eVar 2)]) ρ = some (.ret r) := by
  simp [sRet, eCall, eArgs, e, e3, bindI, bindS, h, ofRC, hl]
theorem ret_if {ρ : Rho} {b : Bool} {A B : FE} (e3 : eVar 3 ρ = some (.ok 1 (.bool b))) : sRet (eIf (eVar 3) A B) ρ = if b = true then sRet A ρ else sRet B ρ := by
  cases b <;> simp [sRet, eIf, e3, bindE]
/-- the two that turn a thing where the turning is: by the word -/
theorem fh_eval (n : Nat) (w : Str) (x : Kd) (t r : PyData) (hl : lf r = true)
    (h1 : w = "swap" → m_swapped (n + 1) [.bool (hd x == "both"), t] = some (.ok r)) (h2 : w = "group" → (if (hd x == "both") = true then m_grouped_pair (n + 1) [t] else m_grouped_side (n + 1) [t]) = some (.ok r))
    (h3 : w = "spread" → m_crossed (n + 1) [t] = some (.ok r)) (h4 : w = "drop" → dIx t (.int 1) = some r) (h5 : ¬ ((w == "swap") = false ∧ (w == "group") = false ∧ (w == "spread") = false ∧ (w == "drop") = false)) :
    m_forth_here (n + 2) [.str w, enc x, t] = some (.ok r) := by
  refine run4 (b := b_forth_here (m_crossed (n + 1)) (m_grouped_pair (n + 1)) (m_grouped_side (n + 1)) (m_swapped (n + 1))) ?_
  unfold b_forth_here
  rw [set_both, if_word, if_word, if_word]
  rcases word5 w with rfl | rfl | rfl | rfl | hno
  · rw [if_pos (by simp)]
    exact ret_call2 rfl rfl (h1 rfl) hl
  · rw [if_neg (by rw [v04]; simp), if_pos (by simp), ret_if (b := hd x == "both") rfl]
    have := h2 rfl
    split at this
    · rename_i hb; rw [if_pos hb]; exact ret_call1 rfl this hl
    · rename_i hb; rw [if_neg hb]; exact ret_call1 rfl this hl
  · rw [if_neg (by rw [v07]; simp), if_neg (by rw [v08]; simp), if_pos (by simp)]
    exact ret_call1 rfl (h3 rfl) hl
  · rw [if_neg (by rw [v10]; simp), if_neg (by rw [v11]; simp), if_neg (by rw [v12]; simp)]
    have := h4 rfl
    simp [sRet, eIx, e2, eVar, eC, bindE, bindS, this, hl]
  · exact absurd hno h5
theorem bh_eval (n : Nat) (w : Str) (x : Kd) (t r : PyData) (hl : lf r = true) (hlt : lf t = true)
    (h1 : w = "swap" → m_swapped (n + 1) [.bool (hd x == "both"), t] = some (.ok r)) (h2 : w = "group" → (if (hd x == "both") = true then m_ungrouped_pair (n + 1) [t] else m_ungrouped_side (n + 1) [t]) = some (.ok r))
    (h3 : w = "spread" → m_crossed (n + 1) [t] = some (.ok r)) (h4 : w = "drop" → (if (hd x == "both") = true then .tuple [.tuple [], t] else .tuple [.str "right", t]) = r) (h5 : ¬ ((w == "swap") = false ∧ (w == "group") = false ∧ (w == "spread") = false ∧ (w == "drop") = false)) :
    m_back_here (n + 2) [.str w, enc x, t] = some (.ok r) := by
  refine run4 (b := b_back_here (m_crossed (n + 1)) (m_ungrouped_pair (n + 1)) (m_ungrouped_side (n + 1)) (m_swapped (n + 1))) ?_
  unfold b_back_here
  rw [set_both, if_word, if_word, if_word]
  rcases word5 w with rfl | rfl | rfl | rfl | hno
  · rw [if_pos (by simp)]
    exact ret_call2 rfl rfl (h1 rfl) hl
  · rw [if_neg (by rw [v04]; simp), if_pos (by simp), ret_if (b := hd x == "both") rfl]
    have := h2 rfl
    split at this
    · rename_i hb; rw [if_pos hb]; exact ret_call1 rfl this hl
    · rename_i hb; rw [if_neg hb]; exact ret_call1 rfl this hl
  · rw [if_neg (by rw [v07]; simp), if_neg (by rw [v08]; simp), if_pos (by simp)]
    exact ret_call1 rfl (h3 rfl) hl
  · rw [if_neg (by rw [v10]; simp), if_neg (by rw [v11]; simp), if_neg (by rw [v12]; simp), ret_if (b := hd x == "both") rfl]
    have := h4 rfl
    split at this
    · rename_i hb; rw [if_pos hb]; subst this; simp [sRet, eTup, eArgs, eVar, bindI, bindS, lf, lfs, hlt]
    · rename_i hb; rw [if_neg hb]; subst this; simp [sRet, eTup, eArgs, eVar, eC, bindI, bindS, lf, lfs, hlt]
  · exact absurd hno h5
theorem hb_both (a b : Kd) : (hd (.both a b) == "both") = true := by simp [hd]
theorem hb_either (a b : Kd) : (hd (.either a b) == "both") = false := w12
theorem fh_ok {z : Sz} (n : Nat) (w : Str) (x y : Kd) (t : Th) (h : hereK w x = some y) (hf : fits z x t) : m_forth_here (n + 2) [.str w, enc x, encTh t] = some (.ok (encTh (fwdH w x t))) := by
  have L := th_lf
  refine fh_eval n w x (encTh t) _ (L _) (fun e => ?_) (fun e => ?_) (fun e => ?_) (fun e => ?_) (fun e => by rw [here_no w x e] at h; cases h)
  · subst e
    rw [here_swap] at h
    simp only [fwdH, beq_self_eq_true, if_true]
    cases x with
    | either a b =>
      rw [hb_either]
      rcases fits_either hf with ⟨u, rfl, hu⟩ | ⟨u, rfl, hu⟩
      · exact swapL_ok n _ (L u)
      · exact swapR_ok n _ (L u)
    | both a b =>
      rw [hb_both]
      obtain ⟨u, v, rfl, hu, hv⟩ := fits_both hf
      exact swapP_ok n _ _ (L u) (L v)
    | none => cases h
    | one => cases h
    | name _ => cases h
  · subst e
    rw [here_group] at h
    simp only [fwdH, v04, Bool.false_eq_true, if_false, beq_self_eq_true, if_true]
    unfold groupK at h
    split at h
    · rw [hb_either, if_neg (by decide)]
      rcases fits_either hf with ⟨u, rfl, hu⟩ | ⟨u, rfl, hu⟩
      · rcases fits_either hu with ⟨v, rfl, hv⟩ | ⟨v, rfl, hv⟩
        · exact gsideLL_ok n _ (L v)
        · exact gsideLR_ok n _ (L v)
      · exact gsideR_ok n _ (L u)
    · rw [hb_both, if_pos rfl]
      obtain ⟨u, v, rfl, hu, hv⟩ := fits_both hf
      obtain ⟨u1, u2, rfl, _, _⟩ := fits_both hu
      exact gpair_ok n _ _ _ (L u1) (L u2) (L v)
    · cases h
  · subst e
    rw [here_spread] at h
    simp only [fwdH, v07, v08, Bool.false_eq_true, if_false, beq_self_eq_true, if_true]
    unfold spreadK at h
    split at h
    · obtain ⟨u, v, rfl, hu, hv⟩ := fits_both hf
      rcases fits_either hv with ⟨q, rfl, _⟩ | ⟨q, rfl, _⟩
      · exact crossed_ok n (encTh u) (.str "left") (encTh q) (L u) rfl (L q)
      · exact crossed_ok n (encTh u) (.str "right") (encTh q) (L u) rfl (L q)
    · cases h
  · subst e
    rw [here_drop] at h
    simp only [fwdH, v10, v11, v12, Bool.false_eq_true, if_false]
    unfold dropK at h
    split at h
    · rcases fits_either hf with ⟨u, rfl, hu⟩ | ⟨u, rfl, hu⟩
      · exact (fits_none hu).elim
      · exact at_1 _ _ _
    · obtain ⟨u, v, rfl, hu, hv⟩ := fits_both hf
      exact (fits_none hu).elim
    · obtain ⟨u, v, rfl, hu, hv⟩ := fits_both hf
      exact at_1 _ _ _
    · cases h
theorem bh_ok {z : Sz} (n : Nat) (w : Str) (x y : Kd) (t : Th) (h : hereK w x = some y) (hf : fits z x t) : m_back_here (n + 2) [.str w, enc x, encTh (fwdH w x t)] = some (.ok (encTh t)) := by
  have L := th_lf
  refine bh_eval n w x (encTh (fwdH w x t)) _ (L _) (L _) (fun e => ?_) (fun e => ?_) (fun e => ?_) (fun e => ?_) (fun e => by rw [here_no w x e] at h; cases h)
  · subst e
    rw [here_swap] at h
    simp only [fwdH, beq_self_eq_true, if_true]
    cases x with
    | either a b =>
      rw [hb_either]
      rcases fits_either hf with ⟨u, rfl, hu⟩ | ⟨u, rfl, hu⟩
      · exact swapR_ok n _ (L u)
      · exact swapL_ok n _ (L u)
    | both a b =>
      rw [hb_both]
      obtain ⟨u, v, rfl, hu, hv⟩ := fits_both hf
      exact swapP_ok n _ _ (L v) (L u)
    | none => cases h
    | one => cases h
    | name _ => cases h
  · subst e
    rw [here_group] at h
    simp only [fwdH, v04, Bool.false_eq_true, if_false, beq_self_eq_true, if_true]
    unfold groupK at h
    split at h
    · rw [hb_either, if_neg (by decide)]
      rcases fits_either hf with ⟨u, rfl, hu⟩ | ⟨u, rfl, hu⟩
      · rcases fits_either hu with ⟨v, rfl, hv⟩ | ⟨v, rfl, hv⟩
        · exact usideL_ok n _ (L v)
        · exact usideRL_ok n _ (L v)
      · exact usideRR_ok n _ (L u)
    · rw [hb_both, if_pos rfl]
      obtain ⟨u, v, rfl, hu, hv⟩ := fits_both hf
      obtain ⟨u1, u2, rfl, _, _⟩ := fits_both hu
      exact upair_ok n _ _ _ (L u1) (L u2) (L v)
    · cases h
  · subst e
    rw [here_spread] at h
    simp only [fwdH, v07, v08, Bool.false_eq_true, if_false, beq_self_eq_true, if_true]
    unfold spreadK at h
    split at h
    · obtain ⟨u, v, rfl, hu, hv⟩ := fits_both hf
      rcases fits_either hv with ⟨q, rfl, _⟩ | ⟨q, rfl, _⟩
      · exact crossed_ok n (.str "left") (encTh u) (encTh q) rfl (L u) (L q)
      · exact crossed_ok n (.str "right") (encTh u) (encTh q) rfl (L u) (L q)
    · cases h
  · subst e
    rw [here_drop] at h
    simp only [fwdH, v10, v11, v12, Bool.false_eq_true, if_false]
    unfold dropK at h
    split at h
    · rcases fits_either hf with ⟨u, rfl, hu⟩ | ⟨u, rfl, hu⟩
      · exact (fits_none hu).elim
      · rw [hb_either, if_neg (by decide)]; rfl
    · obtain ⟨u, v, rfl, hu, hv⟩ := fits_both hf
      exact (fits_none hu).elim
    · obtain ⟨u, v, rfl, hu, hv⟩ := fits_both hf
      rw [fits_one hu, hb_both, if_pos rfl]; rfl
    · cases h
theorem ne_bfB : (A_back_here == A_forth_here) = false := by decide
def fwdT (k : Kd) (w : Str) (p : List Int) (t : Th) : Th := match partK k p with
  | some x => appT k p (fwdH w x) t
  | none => t
end KT
set_option Elab.async false
set_option linter.all false
set_option maxRecDepth 100000
namespace KT
open PySem
theorem forth_ok {z : Sz} (n : Nat) (k : Kd) (w : Str) (p : List Int) (t : Th) (hp : p.length ≤ 900) (hf : fits z k t) : m_forth (n + 4) [enc k, encT w p, encTh t] = if (turnK k w p).isSome then some (.ok (encTh (fwdT k w p t))) else some (.exc 2) := by
  show runB 3 (b_forth (m_thing_by (n + 3)) (m_parts_to_turn (n + 3))) _ = _
  have h := ptt_ok (n + 1) k w p hp
  unfold turnK fwdT
  cases hx : partK k p with
  | none =>
    rw [along_part] at hx
    cases ht : alongT k p with
    | some ts => rw [ht] at hx; cases hx
    | none =>
      rw [ht] at h
      simp only at h
      simp [runB, b_forth, sRet, eCall, eArgs, eVar, bindI, bindS, h, ofRC]
  | some x =>
    have hfp := fits_part z p k x t hx hf
    rw [along_part] at hx
    cases ht : alongT k p with
    | none => rw [ht] at hx; cases hx
    | some ts =>
      rw [ht] at h hx
      simp only [Option.map_some, Option.some.injEq] at hx
      simp only [hx] at h
      simp only [Option.bind_some]
      cases hy : hereK w x with
      | none =>
        rw [hy] at h
        simp only [Option.isSome_none, Bool.false_eq_true, if_false] at h
        simp [runB, b_forth, sRet, eCall, eArgs, eVar, bindI, bindS, h, ofRC]
      | some y =>
        rw [hy] at h
        simp only [Option.isSome_some, if_true] at h
        have hb := thing_by_ok n (fwdH w x) k t w p ts (fits z x) A_forth_here (m_forth_here (n + 2)) ht hfp hp (by simp [List.lookup]) (fun u hu => by rw [hx]; exact fh_ok n w x y u hy hu)
        generalize (k :: ts).map enc = L at h hb
        simp [runB, b_forth, sRet, eCall, eArgs, eVar, eC, bindI, bindS, h, hb, ofRC, th_lf]
theorem back_ok {z : Sz} (n : Nat) (k k' : Kd) (w : Str) (p : List Int) (t : Th) (hp : p.length ≤ 900) (hf : fits z k t) (hk : turnK k w p = some k') : m_back (n + 4) [enc k, encT w p, encTh (fwdT k w p t)] = some (.ok (encTh t)) := by
  show runB 3 (b_back (m_thing_by (n + 3)) (m_parts_to_turn (n + 3))) _ = _
  have h := ptt_ok (n + 1) k w p hp
  unfold turnK at hk
  unfold fwdT
  cases hx : partK k p with
  | none => rw [hx] at hk; cases hk
  | some x =>
    rw [hx] at hk
    simp only [Option.bind_some] at hk
    have hfp := fits_part z p k x t hx hf
    rw [along_part] at hx
    cases ht : alongT k p with
    | none => rw [ht] at hx; cases hx
    | some ts =>
      rw [ht] at h hx
      simp only [Option.map_some, Option.some.injEq] at hx
      simp only [hx] at h
      cases hy : hereK w x with
      | none => rw [hy] at hk; cases hk
      | some y =>
        rw [hy] at h
        simp only [Option.isSome_some, if_true] at h
        have hb := thing_by_ok n (bwdH w x) k (appT k p (fwdH w x) t) w p ts (fun v => ∃ u, fits z x u ∧ v = fwdH w x u) A_back_here (m_back_here (n + 2)) ht (appT_fit _ _ _ (fun u hu => ⟨u, hu, rfl⟩) p k t hfp) hp (by simp [List.lookup, ne_bfB])
          (fun v ⟨u, hu, hv⟩ => by subst hv; rw [hx, bwd_fwd hy hu]; exact bh_ok n w x y u hy hu)
        rw [appT_back (fwdH w x) (bwdH w x) (fits z x) (fun u hu => bwd_fwd hy hu) p k t hfp] at hb
        generalize (k :: ts).map enc = L at h hb
        simp [runB, b_back, sRet, eCall, eArgs, eVar, eC, bindI, bindS, h, hb, ofRC, th_lf]
end KT
set_option Elab.async false
set_option linter.all false
set_option maxRecDepth 100000
namespace KT
open PySem
end KT
set_option Elab.async false
set_option linter.all false
set_option maxRecDepth 100000
namespace KT
open PySem
/-! ### all things of a kind, in order -/
def thg (z : Sz) : Kd → List PyData
  | .none => []
  | .one => [.tuple []]
  | .name i => numsTo (z.at i).toNat
  | .either a b => (thg z a).map (fun t => .tuple [.str "left", t]) ++ (thg z b).map (fun t => .tuple [.str "right", t])
  | .both a b => (thg z a).flatMap fun x => (thg z b).map fun y => .tuple [x, y]
theorem flat_len {α β γ : Type} (f : α → β → γ) (ys : List β) : ∀ xs : List α, (xs.flatMap fun x => ys.map (f x)).length = xs.length * ys.length
  | [] => by simp
  | x :: xs => by rw [List.flatMap_cons, List.length_append, List.length_map, flat_len f ys xs, List.length_cons, Nat.succ_mul]; omega
theorem thg_len {z : Sz} (hz : z.In 0 1000000) : ∀ k : Kd, ((thg z k).length : Int) = cnt z k
  | .none => rfl
  | .one => rfl
  | .name i => by
    have := (Sz.at_in hz i).1
    simp only [thg, cnt, numsTo, List.length_map, List.length_range]
    omega
  | .either a b => by
    have := thg_len hz a; have := thg_len hz b
    simp only [thg, cnt, List.length_append, List.length_map]
    omega
  | .both a b => by
    have ha := thg_len hz a; have hb := thg_len hz b
    simp only [thg, cnt]
    rw [flat_len (fun x y => PyData.tuple [x, y]), ← ha, ← hb]
    push_cast
    rfl
theorem lfs_nums (n : Nat) : lfs (numsTo n) = true := by
  unfold numsTo
  induction List.range n with
  | nil => rfl
  | cons k ks ih => simp [lfs, lf, ih]
theorem lfs_app : ∀ (xs ys : List PyData), lfs (xs ++ ys) = (lfs xs && lfs ys)
  | [], _ => by simp [lfs]
  | x :: xs, ys => by simp [lfs, lfs_app xs ys, Bool.and_assoc]
theorem lfs_map {f : PyData → PyData} (hf : ∀ d, lf d = true → lf (f d) = true) : ∀ xs : List PyData, lfs xs = true → lfs (xs.map f) = true
  | [], _ => rfl
  | x :: xs, h => by
    simp only [lfs, Bool.and_eq_true] at h
    simp [lfs, hf x h.1, lfs_map hf xs h.2]
theorem lfs_flat {f : PyData → List PyData} (hf : ∀ d, lf d = true → lfs (f d) = true) : ∀ xs : List PyData, lfs xs = true → lfs (xs.flatMap f) = true
  | [], _ => rfl
  | x :: xs, h => by
    simp only [lfs, Bool.and_eq_true] at h
    simp [List.flatMap_cons, lfs_app, hf x h.1, lfs_flat hf xs h.2]
theorem thg_lf (z : Sz) : ∀ k : Kd, lfs (thg z k) = true
  | .none => rfl
  | .one => rfl
  | .name i => lfs_nums _
  | .either a b => by
    simp only [thg]
    rw [lfs_app, lfs_map (fun d h => by simp [lf, lfs, h]) _ (thg_lf z a), lfs_map (fun d h => by simp [lf, lfs, h]) _ (thg_lf z b)]
    rfl
  | .both a b => lfs_flat (fun x hx => lfs_map (fun y hy => by simp [lf, lfs, hx, hy]) _ (thg_lf z b)) _ (thg_lf z a)
/-- few things where the sizes are small -/
theorem cnt_small {z : Sz} (hz : z.In 0 3) : ∀ k : Kd, 0 ≤ cnt z k ∧ cnt z k ≤ ((4 ^ k.leaves : Nat) : Int)
  | .none => by simp [cnt, Kd.leaves]
  | .one => by simp [cnt, Kd.leaves]
  | .name i => by
    have := Sz.at_in hz i
    simp only [cnt, Kd.leaves]
    omega
  | .either a b => by
    obtain ⟨a0, a1⟩ := cnt_small hz a
    obtain ⟨b0, b1⟩ := cnt_small hz b
    have pa : 4 ≤ 4 ^ a.leaves := Nat.le_trans (by decide) (Nat.pow_le_pow_right (by decide) a.pos)
    have pb : 4 ≤ 4 ^ b.leaves := Nat.le_trans (by decide) (Nat.pow_le_pow_right (by decide) b.pos)
    have hm : 4 ^ a.leaves + 4 ^ b.leaves ≤ 4 ^ a.leaves * 4 ^ b.leaves := by
      have h1 := Nat.mul_le_mul_left (4 ^ a.leaves) pb
      have h2 := Nat.mul_le_mul_right (4 ^ b.leaves) pa
      omega
    simp only [cnt, Kd.leaves]
    rw [Nat.pow_add]
    omega
  | .both a b => by
    obtain ⟨a0, a1⟩ := cnt_small hz a
    obtain ⟨b0, b1⟩ := cnt_small hz b
    simp only [cnt, Kd.leaves]
    rw [Nat.pow_add]
    refine ⟨Int.mul_nonneg a0 b0, ?_⟩
    rw [Int.natCast_mul]
    exact Int.mul_le_mul a1 b1 b0 (by omega)
end KT
set_option Elab.async false
set_option linter.all false
set_option maxRecDepth 100000
namespace KT
open PySem
theorem thg_small8 {z : Sz} (hz : z.In 0 3) (hz6 : z.In 0 1000000) {k : Kd} (h : k.leaves ≤ 8) : (thg z k).length ≤ 65536 := by
  have h1 := thg_len hz6 k
  have h2 := (cnt_small hz k).2
  have h3 : 4 ^ k.leaves ≤ 4 ^ 8 := Nat.pow_le_pow_right (by decide) h
  have h4 : (4 : Nat) ^ 8 = 65536 := by decide
  omega
/-! ### the law's own row of things, of kinds of up to eight leaves -/
theorem comp_left : ∀ ds : List PyData, lfs ds = true → compGo (eTup [(eC (.str "left")), (eVar 0)]) [] ds = some (ds.map fun t => .tuple [.str "left", t])
  | [], _ => rfl
  | d :: ds, h => by
    simp only [lfs, Bool.and_eq_true] at h
    have e : eTup [(eC (.str "left")), (eVar 0)] [some (.par d)] = some (.ok 0 (.tuple [.str "left", d])) := by simp [eTup, eArgs, eC, eVar, bindI]
    unfold compGo
    rw [e]
    simp [lf, lfs, h.1, comp_left ds h.2]
theorem comp_right : ∀ ds : List PyData, lfs ds = true → compGo (eTup [(eC (.str "right")), (eVar 0)]) [] ds = some (ds.map fun t => .tuple [.str "right", t])
  | [], _ => rfl
  | d :: ds, h => by
    simp only [lfs, Bool.and_eq_true] at h
    have e : eTup [(eC (.str "right")), (eVar 0)] [some (.par d)] = some (.ok 0 (.tuple [.str "right", d])) := by simp [eTup, eArgs, eC, eVar, bindI]
    unfold compGo
    rw [e]
    simp [lf, lfs, h.1, comp_right ds h.2]
theorem comp_pair (x : PyData) (hx : lf x = true) : ∀ ds : List PyData, lfs ds = true → compGo (eTup [(eVar 1), (eVar 0)]) [some (.par x)] ds = some (ds.map fun t => .tuple [x, t])
  | [], _ => rfl
  | d :: ds, h => by
    simp only [lfs, Bool.and_eq_true] at h
    have e : eTup [(eVar 1), (eVar 0)] [some (.par d), some (.par x)] = some (.ok 0 (.tuple [x, d])) := by simp [eTup, eArgs, eVar, bindI]
    unfold compGo
    rw [e]
    simp [lf, lfs, hx, h.1, comp_pair x hx ds h.2]
def pairBody : FS := (sExtend 4 (eComp (iSeq (eVar 3)) [5] (eTup [(eVar 1), (eVar 0)])))
theorem pair_loop (a b c : Option Slot) (ys : List PyData) (hy : lfs ys = true) (hb : ys.length ≤ 70000) : ∀ (xs fs : List PyData) (x : Option Slot), lfs xs = true → fs.length + xs.length * ys.length ≤ 70000 →
    ∃ x', forGo (tgName 5) pairBody xs [a, b, c, some (.own ys), some (.own fs), x] = some (.next [a, b, c, some (.own ys), some (.own (fs ++ xs.flatMap fun x => ys.map fun y => .tuple [x, y])), x'])
  | [], fs, x, _, _ => ⟨x, by simp [forGo]⟩
  | d :: xs, fs, x, h, hl => by
    simp only [lfs, Bool.and_eq_true] at h
    rw [List.length_cons, Nat.succ_mul] at hl
    have hm : lfs (ys.map fun y => .tuple [d, y]) = true := lfs_map (fun y hy => by simp [lf, lfs, h.1, hy]) _ hy
    have hc := comp_pair d h.1 ys hy
    obtain ⟨x', e⟩ := pair_loop a b c ys hy hb xs (fs ++ ys.map fun y => .tuple [d, y]) (some (.loc d)) h.2 (by rw [List.length_append, List.length_map]; omega)
    refine ⟨x', ?_⟩
    have t : pairBody [a, b, c, some (.own ys), some (.own fs), some (.loc d)] = some (.next [a, b, c, some (.own ys), some (.own (fs ++ ys.map fun y => .tuple [d, y])), some (.loc d)]) := by
      have h1 : ys.length ≤ big := Nat.le_trans hb (by decide)
      have h2 : fs.length + ys.length ≤ big := Nat.le_trans (by omega : _ ≤ 70000) (by decide)
      simp [pairBody, sExtend, eComp, iSeq, eVar, hy, h1, demote, hc, bindS, hm, h2]
    unfold forGo
    have t0 : tgName 5 d [a, b, c, some (.own ys), some (.own fs), x] = some [a, b, c, some (.own ys), some (.own fs), some (.loc d)] := rfl
    rw [t0]
    dsimp only
    rw [t]
    dsimp only
    rw [e]
    simp [List.flatMap_cons]
theorem things_ok {z : Sz} (hz : z.In 0 3) (hz6 : z.In 0 1000000) : ∀ (k : Kd) (n : Nat), k.leaves ≤ n → k.leaves ≤ 8 → k.Ok → m_law_things n [enc k, encS z] = some (.ok (.list (thg z k)))
  | k, 0, h, _, _ => by have := k.pos; omega
  | .none, n + 1, _, _, _ => by
    unfold m_law_things
    simp [runB, sSeq, sSet, sIf, sRet, sNext, sExpr, eVar, eC, e1, e2, eAdd, eSub, eMul, eDiv, eMod, eNeg, eEq, eNe, eLt, eLe, eGt, eGe, eIn, eNotIn, eIx, eLen, eInt, eIs, eAnd, eOr, eNot, eIf, eTup, eLst, eArgs, eCall, bindE, bindI, bindS, ofRC, b_law_things, enc, dIx, atP, ixP, lf, lfs, dLen, eqII, eqSS, w11, dInt, dMul, thg]
  | .one, n + 1, _, _, _ => by
    unfold m_law_things
    simp [runB, sSeq, sSet, sIf, sRet, sNext, sExpr, eVar, eC, e1, e2, eAdd, eSub, eMul, eDiv, eMod, eNeg, eEq, eNe, eLt, eLe, eGt, eGe, eIn, eNotIn, eIx, eLen, eInt, eIs, eAnd, eOr, eNot, eIf, eTup, eLst, eArgs, eCall, bindE, bindI, bindS, ofRC, b_law_things, enc, dIx, atP, ixP, lf, lfs, dLen, eqII, eqSS, dInt, dMul, thg, big]
  | .name i, n + 1, _, _, ⟨h0, h3⟩ => by
    have e0 := at_sz (z := z) h0 h3
    have hi := Sz.at_in hz i
    have hb : (z.at i).natAbs ≤ big := Nat.le_trans (by omega : _ ≤ 3) (by decide)
    have e1' : atP [PyData.str "name", .int i] 1 = some (.int i) := rfl
    unfold m_law_things
    simp [runB, sSeq, sSet, sIf, sRet, sNext, sExpr, eVar, eC, e1, e2, eAdd, eSub, eMul, eDiv, eMod, eNeg, eEq, eNe, eLt, eLe, eGt, eGe, eIn, eNotIn, eIx, eLen, eInt, eIs, eAnd, eOr, eNot, eIf, eTup, eLst, eArgs, eCall, bindE, bindI, bindS, ofRC, b_law_things, enc, encS, dIx, e0, e1', lf, lfs, dLen, eqII, eListRng, dListRng, hb, thg]
  | .either a b, n + 1, hn, h6, ⟨oa, ob⟩ => by
    have pa := a.pos
    have pb := b.pos
    simp only [Kd.leaves] at hn h6
    have e0 : atP [PyData.str "either", enc a, enc b] 0 = some (.str "either") := rfl
    have e1' : atP [PyData.str "either", enc a, enc b] 1 = some (enc a) := rfl
    have e2' : atP [PyData.str "either", enc a, enc b] 2 = some (enc b) := rfl
    have ea := things_ok hz hz6 a n (by omega) (by omega) oa
    have eb := things_ok hz hz6 b n (by omega) (by omega) ob
    have la := thg_small8 hz hz6 (k := a) (by omega)
    have lb := thg_small8 hz hz6 (k := b) (by omega)
    have lab := thg_small8 hz hz6 (k := .either a b) (by simpa [Kd.leaves] using h6)
    simp only [thg, List.length_append, List.length_map] at lab
    have fa := thg_lf z a
    have fb := thg_lf z b
    have b1 : (thg z a).length ≤ big := Nat.le_trans la (by decide)
    have b2 : (thg z b).length ≤ big := Nat.le_trans lb (by decide)
    have b3 : (thg z a).length + (thg z b).length ≤ big := Nat.le_trans (by omega : _ ≤ 65536) (by decide)
    have ma : lfs ((thg z a).map fun t => .tuple [.str "left", t]) = true := lfs_map (fun d h => by simp [lf, lfs, h]) _ fa
    have mb : lfs ((thg z b).map fun t => .tuple [.str "right", t]) = true := lfs_map (fun d h => by simp [lf, lfs, h]) _ fb
    unfold m_law_things
    simp [runB, sSeq, sSet, sIf, sRet, sNext, sExpr, eVar, eC, e1, e2, eAdd, eSub, eMul, eDiv, eMod, eNeg, eEq, eNe, eLt, eLe, eGt, eGe, eIn, eNotIn, eIx, eLen, eInt, eIs, eAnd, eOr, eNot, eIf, eTup, eLst, eArgs, eCall, bindE, bindI, bindS, ofRC, b_law_things, enc, dIx, e0, e1', e2', asg, lf, lfs, dLen, eqII, eqSS, ea, eb, fa, fb, sExtend, eComp, iSeq, b1, b2, comp_left _ fa, comp_right _ fb, ma, mb, b3, thg]
  | .both a b, n + 1, hn, h6, ⟨oa, ob⟩ => by
    have pa := a.pos
    have pb := b.pos
    have l6 : (Kd.both a b).leaves ≤ 8 := h6
    simp only [Kd.leaves] at hn h6
    have e0 : atP [PyData.str "both", enc a, enc b] 0 = some (.str "both") := rfl
    have e1' : atP [PyData.str "both", enc a, enc b] 1 = some (enc a) := rfl
    have e2' : atP [PyData.str "both", enc a, enc b] 2 = some (enc b) := rfl
    have ea := things_ok hz hz6 a n (by omega) (by omega) oa
    have eb := things_ok hz hz6 b n (by omega) (by omega) ob
    have lb := thg_small8 hz hz6 (k := b) (by omega)
    have lab := thg_small8 hz hz6 l6
    have fa := thg_lf z a
    have fb := thg_lf z b
    simp only [thg] at lab
    rw [flat_len (fun x y => PyData.tuple [x, y])] at lab
    obtain ⟨x', q⟩ := pair_loop (some (.par (.tuple [.str "both", enc a, enc b]))) (some (.par (encS z))) (some (.loc (.list (thg z a)))) (thg z b) fb (by omega) (thg z a) [] none fa (by simp; omega)
    rw [List.nil_append] at q
    show runB 6 (b_law_things (m_law_things n)) [_, _] = _
    refine run_ret ?_
    show b_law_things (m_law_things n) [some (.par (.tuple [.str "both", enc a, enc b])), some (.par (encS z)), none, none, none, none] = _
    unfold b_law_things
    refine (seq_next (ρ' := [some (.par (.tuple [.str "both", enc a, enc b])), some (.par (encS z)), none, none, none, none]) (by simp [runB, sSeq, sSet, sIf, sRet, sNext, sExpr, eVar, eC, e1, e2, eAdd, eSub, eMul, eDiv, eMod, eNeg, eEq, eNe, eLt, eLe, eGt, eGe, eIn, eNotIn, eIx, eLen, eInt, eIs, eAnd, eOr, eNot, eIf, eTup, eLst, eArgs, eCall, bindE, bindI, bindS, ofRC, dLen, eqII])).trans ?_
    refine (seq_next (ρ' := [some (.par (.tuple [.str "both", enc a, enc b])), some (.par (encS z)), none, none, none, none]) (by simp [runB, sSeq, sSet, sIf, sRet, sNext, sExpr, eVar, eC, e1, e2, eAdd, eSub, eMul, eDiv, eMod, eNeg, eEq, eNe, eLt, eLe, eGt, eGe, eIn, eNotIn, eIx, eLen, eInt, eIs, eAnd, eOr, eNot, eIf, eTup, eLst, eArgs, eCall, bindE, bindI, bindS, ofRC, dLen, eqII])).trans ?_
    refine (seq_next (ρ' := [some (.par (.tuple [.str "both", enc a, enc b])), some (.par (encS z)), some (.own (thg z a)), none, none, none]) (by simp [runB, sSeq, sSet, sIf, sRet, sNext, sExpr, eVar, eC, e1, e2, eAdd, eSub, eMul, eDiv, eMod, eNeg, eEq, eNe, eLt, eLe, eGt, eGe, eIn, eNotIn, eIx, eLen, eInt, eIs, eAnd, eOr, eNot, eIf, eTup, eLst, eArgs, eCall, bindE, bindI, bindS, ofRC, dIx, e1', ea, asg, lf, fa])).trans ?_
    refine (seq_next (ρ' := [some (.par (.tuple [.str "both", enc a, enc b])), some (.par (encS z)), some (.own (thg z a)), some (.own (thg z b)), none, none]) (by simp [runB, sSeq, sSet, sIf, sRet, sNext, sExpr, eVar, eC, e1, e2, eAdd, eSub, eMul, eDiv, eMod, eNeg, eEq, eNe, eLt, eLe, eGt, eGe, eIn, eNotIn, eIx, eLen, eInt, eIs, eAnd, eOr, eNot, eIf, eTup, eLst, eArgs, eCall, bindE, bindI, bindS, ofRC, dIx, e2', eb, asg, lf, fb])).trans ?_
    refine (seq_next (ρ' := [some (.par (.tuple [.str "both", enc a, enc b])), some (.par (encS z)), some (.own (thg z a)), some (.own (thg z b)), some (.own []), none]) (by simp [runB, sSeq, sSet, sIf, sRet, sNext, sExpr, eVar, eC, e1, e2, eAdd, eSub, eMul, eDiv, eMod, eNeg, eEq, eNe, eLt, eLe, eGt, eGe, eIn, eNotIn, eIx, eLen, eInt, eIs, eAnd, eOr, eNot, eIf, eTup, eLst, eArgs, eCall, bindE, bindI, bindS, ofRC, asg, lf, lfs])).trans ?_
    refine (seq_next (ρ' := [some (.par (.tuple [.str "both", enc a, enc b])), some (.par (encS z)), some (.own (thg z a)), some (.own (thg z b)), some (.own []), none]) (by simp [runB, sSeq, sSet, sIf, sRet, sNext, sExpr, eVar, eC, e1, e2, eAdd, eSub, eMul, eDiv, eMod, eNeg, eEq, eNe, eLt, eLe, eGt, eGe, eIn, eNotIn, eIx, eLen, eInt, eIs, eAnd, eOr, eNot, eIf, eTup, eLst, eArgs, eCall, bindE, bindI, bindS, ofRC, dIx, e0, eqSS, w07])).trans ?_
    refine (seq_next (ρ' := [some (.par (.tuple [.str "both", enc a, enc b])), some (.par (encS z)), some (.loc (.list (thg z a))), some (.own (thg z b)), some (.own (thg z (.both a b))), x']) q).trans ?_
    simp [runB, sSeq, sSet, sIf, sRet, sNext, sExpr, eVar, eC, e1, e2, eAdd, eSub, eMul, eDiv, eMod, eNeg, eEq, eNe, eLt, eLe, eGt, eGe, eIn, eNotIn, eIx, eLen, eInt, eIs, eAnd, eOr, eNot, eIf, eTup, eLst, eArgs, eCall, bindE, bindI, bindS, ofRC]
end KT
set_option Elab.async false
set_option linter.all false
set_option maxRecDepth 100000
namespace KT
open PySem
/-! ### a turning leads things one to one -/
theorem fwd_fits {z : Sz} {w : Str} {x y : Kd} {t : Th} (h : hereK w x = some y) (hf : fits z x t) : fits z y (fwdH w x t) := by
  rcases word5 w with rfl | rfl | rfl | rfl | hno
  · rw [here_swap] at h
    simp only [fwdH, beq_self_eq_true, if_true]
    unfold swapK at h
    split at h
    · cases h
      rcases fits_either hf with ⟨u, rfl, hu⟩ | ⟨u, rfl, hu⟩ <;> exact hu
    · cases h
      obtain ⟨u, v, rfl, hu, hv⟩ := fits_both hf
      exact ⟨hv, hu⟩
    · cases h
  · rw [here_group] at h
    simp only [fwdH, v04, Bool.false_eq_true, if_false, beq_self_eq_true, if_true]
    unfold groupK at h
    split at h
    · cases h
      rcases fits_either hf with ⟨u, rfl, hu⟩ | ⟨u, rfl, hu⟩
      · rcases fits_either hu with ⟨v, rfl, hv⟩ | ⟨v, rfl, hv⟩ <;> exact hv
      · exact hu
    · cases h
      obtain ⟨u, v, rfl, hu, hv⟩ := fits_both hf
      obtain ⟨u1, u2, rfl, h1, h2⟩ := fits_both hu
      exact ⟨h1, h2, hv⟩
    · cases h
  · rw [here_spread] at h
    simp only [fwdH, v07, v08, Bool.false_eq_true, if_false, beq_self_eq_true, if_true]
    unfold spreadK at h
    split at h
    · cases h
      obtain ⟨u, v, rfl, hu, hv⟩ := fits_both hf
      rcases fits_either hv with ⟨q, rfl, hq⟩ | ⟨q, rfl, hq⟩ <;> exact ⟨hu, hq⟩
    · cases h
  · rw [here_drop] at h
    simp only [fwdH, v10, v11, v12, Bool.false_eq_true, if_false]
    unfold dropK at h
    split at h
    · cases h
      rcases fits_either hf with ⟨u, rfl, hu⟩ | ⟨u, rfl, hu⟩
      · exact (fits_none hu).elim
      · exact hu
    · obtain ⟨u, v, rfl, hu, hv⟩ := fits_both hf
      exact (fits_none hu).elim
    · cases h
      obtain ⟨u, v, rfl, hu, hv⟩ := fits_both hf
      exact hv
    · cases h
  · rw [here_no w x hno] at h; cases h
theorem bwd_ok {z : Sz} {w : Str} {x y : Kd} {t : Th} (h : hereK w x = some y) (hf : fits z y t) : fits z x (bwdH w x t) ∧ fwdH w x (bwdH w x t) = t := by
  rcases word5 w with rfl | rfl | rfl | rfl | hno
  · rw [here_swap] at h
    simp only [fwdH, bwdH, beq_self_eq_true, if_true]
    unfold swapK at h
    split at h
    · cases h
      rcases fits_either hf with ⟨u, rfl, hu⟩ | ⟨u, rfl, hu⟩ <;> exact ⟨hu, rfl⟩
    · cases h
      obtain ⟨u, v, rfl, hu, hv⟩ := fits_both hf
      exact ⟨⟨hv, hu⟩, rfl⟩
    · cases h
  · rw [here_group] at h
    simp only [fwdH, bwdH, v04, Bool.false_eq_true, if_false, beq_self_eq_true, if_true]
    unfold groupK at h
    split at h
    · cases h
      rcases fits_either hf with ⟨u, rfl, hu⟩ | ⟨u, rfl, hu⟩
      · exact ⟨hu, rfl⟩
      · rcases fits_either hu with ⟨v, rfl, hv⟩ | ⟨v, rfl, hv⟩ <;> exact ⟨hv, rfl⟩
    · cases h
      obtain ⟨u, v, rfl, hu, hv⟩ := fits_both hf
      obtain ⟨u1, u2, rfl, h1, h2⟩ := fits_both hv
      exact ⟨⟨⟨hu, h1⟩, h2⟩, rfl⟩
    · cases h
  · rw [here_spread] at h
    simp only [fwdH, bwdH, v07, v08, Bool.false_eq_true, if_false, beq_self_eq_true, if_true]
    unfold spreadK at h
    split at h
    · cases h
      rcases fits_either hf with ⟨u, rfl, hu⟩ | ⟨u, rfl, hu⟩
      · obtain ⟨p, q, rfl, h1, h2⟩ := fits_both hu
        exact ⟨⟨h1, h2⟩, rfl⟩
      · obtain ⟨p, q, rfl, h1, h2⟩ := fits_both hu
        exact ⟨⟨h1, h2⟩, rfl⟩
    · cases h
  · rw [here_drop] at h
    simp only [fwdH, bwdH, v10, v11, v12, Bool.false_eq_true, if_false]
    unfold dropK at h
    split at h
    · cases h
      exact ⟨hf, rfl⟩
    · cases h
      exact (fits_none hf).elim
    · cases h
      exact ⟨⟨trivial, hf⟩, rfl⟩
    · cases h
  · rw [here_no w x hno] at h; cases h
theorem here_cnt (z : Sz) {w : Str} {x y : Kd} (h : hereK w x = some y) : cnt z y = cnt z x := by
  rcases word5 w with rfl | rfl | rfl | rfl | hno
  · rw [here_swap] at h
    unfold swapK at h
    split at h
    · cases h; simp only [cnt]; omega
    · cases h; simp only [cnt]; exact Int.mul_comm _ _
    · cases h
  · rw [here_group] at h
    unfold groupK at h
    split at h
    · cases h; simp only [cnt]; omega
    · cases h; simp only [cnt]; exact (Int.mul_assoc _ _ _).symm
    · cases h
  · rw [here_spread] at h
    unfold spreadK at h
    split at h
    · cases h; simp only [cnt]; exact (Int.mul_add _ _ _).symm
    · cases h
  · rw [here_drop] at h
    unfold dropK at h
    split at h
    · cases h; simp [cnt]
    · cases h; simp [cnt]
    · cases h; simp [cnt]
    · cases h
  · rw [here_no w x hno] at h; cases h
theorem here_small {w : Str} {x y : Kd} (h : hereK w x = some y) : y.leaves + 2 ≤ 2 * x.leaves := by
  rcases word5 w with rfl | rfl | rfl | rfl | hno
  · rw [here_swap] at h
    unfold swapK at h
    split at h
    · rename_i a b; cases h; have := a.pos; have := b.pos; simp only [Kd.leaves]; omega
    · rename_i a b; cases h; have := a.pos; have := b.pos; simp only [Kd.leaves]; omega
    · cases h
  · rw [here_group] at h
    unfold groupK at h
    split at h
    · rename_i a b c; cases h; have := a.pos; have := b.pos; have := c.pos; simp only [Kd.leaves]; omega
    · rename_i a b c; cases h; have := a.pos; have := b.pos; have := c.pos; simp only [Kd.leaves]; omega
    · cases h
  · rw [here_spread] at h
    unfold spreadK at h
    split at h
    · rename_i a b c; cases h; have := a.pos; have := b.pos; have := c.pos; simp only [Kd.leaves]; omega
    · cases h
  · rw [here_drop] at h
    unfold dropK at h
    split at h
    · cases h; have := y.pos; simp only [Kd.leaves]; omega
    · rename_i b; cases h; have := b.pos; simp only [Kd.leaves]; omega
    · cases h; have := y.pos; simp only [Kd.leaves]; omega
    · cases h
  · rw [here_no w x hno] at h; cases h
theorem here_Ok {w : Str} {x y : Kd} (h : hereK w x = some y) (ok : x.Ok) : y.Ok := by
  rcases word5 w with rfl | rfl | rfl | rfl | hno
  · rw [here_swap] at h
    unfold swapK at h
    split at h
    · cases h; exact ⟨ok.2, ok.1⟩
    · cases h; exact ⟨ok.2, ok.1⟩
    · cases h
  · rw [here_group] at h
    unfold groupK at h
    split at h
    · cases h; exact ⟨ok.1.1, ok.1.2, ok.2⟩
    · cases h; exact ⟨ok.1.1, ok.1.2, ok.2⟩
    · cases h
  · rw [here_spread] at h
    unfold spreadK at h
    split at h
    · cases h; exact ⟨⟨ok.1, ok.2.1⟩, ok.1, ok.2.2⟩
    · cases h
  · rw [here_drop] at h
    unfold dropK at h
    split at h
    · cases h; exact ok.2
    · cases h; trivial
    · cases h; exact ok.2
    · cases h
  · rw [here_no w x hno] at h; cases h
/-! ### within a kind -/
theorem put_all (z : Sz) (x y : Kd) (hc : cnt z y = cnt z x) (ho : x.Ok → y.Ok) : ∀ (p : List Int) (k : Kd), partK k p = some x → cnt z (putK k p y) = cnt z k ∧ (putK k p y).leaves + x.leaves = k.leaves + y.leaves ∧ (k.Ok → (putK k p y).Ok)
  | [], k, h => by
    simp only [partK, Option.some.injEq] at h
    subst h
    exact ⟨by simp only [putK]; exact hc, by simp only [putK]; omega, by simp only [putK]; exact ho⟩
  | s :: p, k, h => by
    simp only [partK] at h
    cases k with
    | either a b =>
      simp only [stepK] at h
      unfold putK
      split
      · rename_i h0; rw [if_pos h0] at h
        obtain ⟨h1, h2, h3⟩ := put_all z x y hc ho p a h
        exact ⟨by simp only [cnt, h1], by simp only [Kd.leaves]; omega, fun o => ⟨h3 o.1, o.2⟩⟩
      · rename_i h0
        rw [if_neg h0] at h
        split at h
        · obtain ⟨h1, h2, h3⟩ := put_all z x y hc ho p b h
          exact ⟨by simp only [cnt, h1], by simp only [Kd.leaves]; omega, fun o => ⟨o.1, h3 o.2⟩⟩
        · cases h
    | both a b =>
      simp only [stepK] at h
      unfold putK
      split
      · rename_i h0; rw [if_pos h0] at h
        obtain ⟨h1, h2, h3⟩ := put_all z x y hc ho p a h
        exact ⟨by simp only [cnt, h1], by simp only [Kd.leaves]; omega, fun o => ⟨h3 o.1, o.2⟩⟩
      · rename_i h0
        rw [if_neg h0] at h
        split at h
        · obtain ⟨h1, h2, h3⟩ := put_all z x y hc ho p b h
          exact ⟨by simp only [cnt, h1], by simp only [Kd.leaves]; omega, fun o => ⟨o.1, h3 o.2⟩⟩
        · cases h
    | none => cases h
    | one => cases h
    | name _ => cases h
theorem put_fits {z : Sz} {x y : Kd} (f : Th → Th) (hf : ∀ t, fits z x t → fits z y (f t)) : ∀ (p : List Int) (k : Kd) (t : Th), partK k p = some x → fits z k t → fits z (putK k p y) (appT k p f t)
  | [], k, t, h, ht => by
    simp only [partK, Option.some.injEq] at h
    subst h
    simp only [putK, appT_nil]
    exact hf t ht
  | s :: p, k, t, h, ht => by
    simp only [partK] at h
    cases k with
    | either a b =>
      simp only [stepK] at h
      rcases fits_either ht with ⟨u, rfl, hu⟩ | ⟨u, rfl, hu⟩
      · unfold putK appT
        by_cases h0 : s = 0
        · rw [if_pos h0] at h ⊢
          rw [if_pos h0]
          exact put_fits f hf p a u h hu
        · rw [if_neg h0, if_neg h0]
          exact hu
      · unfold putK appT
        by_cases h0 : s = 0
        · rw [if_pos h0, if_pos h0]
          exact hu
        · rw [if_neg h0] at h ⊢
          rw [if_neg h0]
          split at h
          · exact put_fits f hf p b u h hu
          · cases h
    | both a b =>
      simp only [stepK] at h
      obtain ⟨u, v, rfl, hu, hv⟩ := fits_both ht
      unfold putK appT
      by_cases h0 : s = 0
      · rw [if_pos h0] at h ⊢
        rw [if_pos h0]
        exact ⟨put_fits f hf p a u h hu, hv⟩
      · rw [if_neg h0] at h ⊢
        rw [if_neg h0]
        split at h
        · exact ⟨hu, put_fits f hf p b v h hv⟩
        · cases h
    | none => cases h
    | one => cases h
    | name _ => cases h
theorem put_back {z : Sz} {x y : Kd} (g : Th → Th) (hg : ∀ t, fits z y t → fits z x (g t)) : ∀ (p : List Int) (k : Kd) (u : Th), partK k p = some x → fits z (putK k p y) u → fits z k (appT k p g u) ∧ fitP k p (fits z y) u
  | [], k, t, h, ht => by
    simp only [partK, Option.some.injEq] at h
    subst h
    simp only [putK] at ht
    rw [appT_nil, fitP_nil]
    exact ⟨hg t ht, ht⟩
  | s :: p, k, t, h, ht => by
    simp only [partK] at h
    cases k with
    | either a b =>
      simp only [stepK] at h
      unfold putK at ht
      by_cases h0 : s = 0
      · rw [if_pos h0] at h ht
        rcases fits_either ht with ⟨u, rfl, hu⟩ | ⟨u, rfl, hu⟩
        · obtain ⟨h1, h2⟩ := put_back g hg p a u h hu
          unfold appT fitP
          rw [if_pos h0, if_pos h0]
          exact ⟨h1, h2⟩
        · unfold appT fitP
          rw [if_pos h0, if_pos h0]
          exact ⟨hu, trivial⟩
      · rw [if_neg h0] at h ht
        split at h
        · rcases fits_either ht with ⟨u, rfl, hu⟩ | ⟨u, rfl, hu⟩
          · unfold appT fitP
            rw [if_neg h0, if_neg h0]
            exact ⟨hu, trivial⟩
          · obtain ⟨h1, h2⟩ := put_back g hg p b u h hu
            unfold appT fitP
            rw [if_neg h0, if_neg h0]
            exact ⟨h1, h2⟩
        · cases h
    | both a b =>
      simp only [stepK] at h
      unfold putK at ht
      by_cases h0 : s = 0
      · rw [if_pos h0] at h ht
        obtain ⟨u, v, rfl, hu, hv⟩ := fits_both ht
        obtain ⟨h1, h2⟩ := put_back g hg p a u h hu
        unfold appT fitP
        rw [if_pos h0, if_pos h0]
        exact ⟨⟨h1, hv⟩, h2⟩
      · rw [if_neg h0] at h ht
        split at h
        · obtain ⟨u, v, rfl, hu, hv⟩ := fits_both ht
          obtain ⟨h1, h2⟩ := put_back g hg p b v h hv
          unfold appT fitP
          rw [if_neg h0, if_neg h0]
          exact ⟨⟨hu, h1⟩, h2⟩
        · cases h
    | none => cases h
    | one => cases h
    | name _ => cases h
/-- all of a turning, for the things of a kind -/
structure Turns (z : Sz) (k k' : Kd) (w : Str) (p : List Int) : Prop where
  cn : cnt z k' = cnt z k
  lv : k'.leaves + 2 ≤ 2 * k.leaves
  ok : k.Ok → k'.Ok
  fw : ∀ t, fits z k t → fits z k' (fwdT k w p t)
  inj : ∀ t u, fits z k t → fits z k u → fwdT k w p t = fwdT k w p u → t = u
  bw : ∀ u, fits z k' u → ∃ t, fits z k t ∧ fwdT k w p t = u
theorem turns_of {z : Sz} {k k' : Kd} {w : Str} {p : List Int} (h : turnK k w p = some k') : Turns z k k' w p := by
  unfold turnK at h
  cases hx : partK k p with
  | none => rw [hx] at h; cases h
  | some x =>
    rw [hx] at h
    simp only [Option.bind_some] at h
    cases hy : hereK w x with
    | none => rw [hy] at h; cases h
    | some y =>
      rw [hy] at h
      simp only [Option.map_some, Option.some.injEq] at h
      subst h
      obtain ⟨h1, h2, h3⟩ := put_all z x y (here_cnt z hy) (here_Ok hy) p k hx
      have h4 := here_small hy
      have h5 := partK_len p k x hx
      have ef : ∀ t, fwdT k w p t = appT k p (fwdH w x) t := fun t => by simp only [fwdT, hx]
      refine ⟨h1, by omega, h3, fun t ht => ?_, fun t u ht hu e => ?_, fun u hu => ?_⟩
      · rw [ef]; exact put_fits _ (fun t ht => fwd_fits hy ht) p k t hx ht
      · rw [ef, ef] at e
        have b1 := appT_back (fwdH w x) (bwdH w x) (fits z x) (fun t ht => bwd_fwd hy ht) p k t (fits_part z p k x t hx ht)
        have b2 := appT_back (fwdH w x) (bwdH w x) (fits z x) (fun t ht => bwd_fwd hy ht) p k u (fits_part z p k x u hx hu)
        rw [← b1, e, b2]
      · obtain ⟨q1, q2⟩ := put_back (bwdH w x) (fun t ht => (bwd_ok hy ht).1) p k u hx hu
        refine ⟨_, q1, ?_⟩
        rw [ef]
        exact appT_back (bwdH w x) (fwdH w x) (fits z y) (fun t ht => (bwd_ok hy ht).2) p k u q2
/-! ### the things, as a row -/
def thL (z : Sz) : Kd → List Th
  | .none => []
  | .one => [.unit]
  | .name i => (List.range (z.at i).toNat).map fun (j : Nat) => .num (j : Int)
  | .either a b => (thL z a).map .left ++ (thL z b).map .right
  | .both a b => (thL z a).flatMap fun x => (thL z b).map fun y => .pair x y
theorem thg_thL (z : Sz) : ∀ k : Kd, thg z k = (thL z k).map encTh
  | .none => rfl
  | .one => rfl
  | .name i => by simp [thg, thL, numsTo, encTh, Function.comp_def]
  | .either a b => by simp [thg, thL, thg_thL z a, thg_thL z b, encTh, Function.comp_def]
  | .both a b => by simp [thg, thL, thg_thL z a, thg_thL z b, encTh, Function.comp_def, List.flatMap_map, List.map_flatMap]
theorem thL_iff (z : Sz) : ∀ (k : Kd) (t : Th), t ∈ thL z k ↔ fits z k t
  | .none, t => by simp only [thL]; cases t <;> simp [fits]
  | .one, t => by simp only [thL]; cases t <;> simp [fits]
  | .name i, t => by
    simp only [thL, List.mem_map, List.mem_range]
    constructor
    · rintro ⟨j, hj, rfl⟩
      simp only [fits]
      omega
    · intro h
      cases t <;> simp only [fits] at h
      rename_i v
      exact ⟨v.toNat, by omega, by rw [Int.toNat_of_nonneg h.1]⟩
  | .either a b, t => by
    simp only [thL, List.mem_append, List.mem_map]
    constructor
    · rintro (⟨u, hu, rfl⟩ | ⟨u, hu, rfl⟩)
      · exact (thL_iff z a u).mp hu
      · exact (thL_iff z b u).mp hu
    · intro h
      rcases fits_either h with ⟨u, rfl, hu⟩ | ⟨u, rfl, hu⟩
      · exact .inl ⟨u, (thL_iff z a u).mpr hu, rfl⟩
      · exact .inr ⟨u, (thL_iff z b u).mpr hu, rfl⟩
  | .both a b, t => by
    simp only [thL, List.mem_flatMap, List.mem_map]
    constructor
    · rintro ⟨u, hu, v, hv, rfl⟩
      exact ⟨(thL_iff z a u).mp hu, (thL_iff z b v).mp hv⟩
    · intro h
      obtain ⟨u, v, rfl, hu, hv⟩ := fits_both h
      exact ⟨u, (thL_iff z a u).mpr hu, v, (thL_iff z b v).mpr hv, rfl⟩
theorem nodup_map {α β : Type} {f : α → β} (hf : ∀ x y, f x = f y → x = y) : ∀ {l : List α}, l.Nodup → (l.map f).Nodup
  | [], _ => List.nodup_nil
  | x :: xs, h => by
    rw [List.nodup_cons] at h
    rw [List.map_cons, List.nodup_cons]
    refine ⟨fun hm => ?_, nodup_map hf h.2⟩
    obtain ⟨y, hy, e⟩ := List.mem_map.mp hm
    exact h.1 (hf _ _ e ▸ hy)
theorem nodup_pairs {ys : List Th} (hy : ys.Nodup) : ∀ {xs : List Th}, xs.Nodup → (xs.flatMap fun x => ys.map fun y => Th.pair x y).Nodup
  | [], _ => List.nodup_nil
  | x :: xs, h => by
    rw [List.nodup_cons] at h
    rw [List.flatMap_cons, List.nodup_append]
    refine ⟨nodup_map (fun a b e => by injection e) hy, nodup_pairs hy h.2, fun a ha b hb e => ?_⟩
    subst e
    obtain ⟨y, _, rfl⟩ := List.mem_map.mp ha
    obtain ⟨x', hx', hb⟩ := List.mem_flatMap.mp hb
    obtain ⟨y', _, e⟩ := List.mem_map.mp hb
    injection e with e1 _
    exact h.1 (e1 ▸ hx')
theorem thL_nodup (z : Sz) : ∀ k : Kd, (thL z k).Nodup
  | .none => List.nodup_nil
  | .one => by simp [thL]
  | .name i => nodup_map (fun a b e => by injection e with e; omega) List.nodup_range
  | .either a b => by
    simp only [thL]
    rw [List.nodup_append]
    refine ⟨nodup_map (fun a b e => by injection e) (thL_nodup z a), nodup_map (fun a b e => by injection e) (thL_nodup z b), fun x hx y hy e => ?_⟩
    obtain ⟨_, _, rfl⟩ := List.mem_map.mp hx
    obtain ⟨_, _, rfl⟩ := List.mem_map.mp hy
    cases e
  | .both a b => nodup_pairs (thL_nodup z b) (thL_nodup z a)
/-! ### things as keys -/
theorem th_nostr (t : Th) (s : Str) : encTh t ≠ .str s := by cases t <;> simp [encTh]
theorem encTh_inj : ∀ a b : Th, encTh a = encTh b → a = b
  | .unit, .unit, _ => rfl
  | .num i, .num j, e => by simp only [encTh, PyData.int.injEq] at e; rw [e]
  | .left a, .left b, e => by
    simp only [encTh, PyData.tuple.injEq, List.cons.injEq, and_true, true_and] at e
    rw [encTh_inj a b e]
  | .right a, .right b, e => by
    simp only [encTh, PyData.tuple.injEq, List.cons.injEq, and_true, true_and] at e
    rw [encTh_inj a b e]
  | .pair a b, .pair c d, e => by
    simp only [encTh, PyData.tuple.injEq, List.cons.injEq, and_true] at e
    rw [encTh_inj a c e.1, encTh_inj b d e.2]
  | .left a, .right b, e => by
    simp only [encTh, PyData.tuple.injEq, List.cons.injEq, PyData.str.injEq] at e
    have := wlr
    rw [e.1] at this
    simp at this
  | .right a, .left b, e => by
    simp only [encTh, PyData.tuple.injEq, List.cons.injEq, PyData.str.injEq] at e
    have := wrl
    rw [e.1] at this
    simp at this
  | .left a, .pair c d, e => by
    simp only [encTh, PyData.tuple.injEq, List.cons.injEq] at e
    exact absurd e.1.symm (th_nostr c _)
  | .right a, .pair c d, e => by
    simp only [encTh, PyData.tuple.injEq, List.cons.injEq] at e
    exact absurd e.1.symm (th_nostr c _)
  | .pair c d, .left a, e => by
    simp only [encTh, PyData.tuple.injEq, List.cons.injEq] at e
    exact absurd e.1 (th_nostr c _)
  | .pair c d, .right a, e => by
    simp only [encTh, PyData.tuple.injEq, List.cons.injEq] at e
    exact absurd e.1 (th_nostr c _)
  | .unit, .num _, e => by simp [encTh] at e
  | .unit, .left _, e => by simp [encTh] at e
  | .unit, .right _, e => by simp [encTh] at e
  | .unit, .pair _ _, e => by simp [encTh] at e
  | .num _, .unit, e => by simp [encTh] at e
  | .num _, .left _, e => by simp [encTh] at e
  | .num _, .right _, e => by simp [encTh] at e
  | .num _, .pair _ _, e => by simp [encTh] at e
  | .left _, .unit, e => by simp [encTh] at e
  | .left _, .num _, e => by simp [encTh] at e
  | .right _, .unit, e => by simp [encTh] at e
  | .right _, .num _, e => by simp [encTh] at e
  | .pair _ _, .unit, e => by simp [encTh] at e
  | .pair _ _, .num _, e => by simp [encTh] at e
theorem th_kD : ∀ t : Th, KN.kD (encTh t) = true
  | .unit => rfl
  | .num _ => rfl
  | .left t => by simp [encTh, KN.kD, KN.kDs, ok_left, th_kD t]
  | .right t => by simp [encTh, KN.kD, KN.kDs, ok_right, th_kD t]
  | .pair a b => by simp [encTh, KN.kD, KN.kDs, th_kD a, th_kD b]
theorem fits_depth (z : Sz) : ∀ (k : Kd) (t : Th), fits z k t → (encTh t).depth ≤ k.leaves
  | .one, t, h => by rw [fits_one h]; simp [encTh, PyData.depth, PyData.depthAll, Kd.leaves]
  | .name _, t, h => by
    cases t <;> simp only [fits] at h
    simp [encTh, PyData.depth, Kd.leaves]
  | .either a b, t, h => by
    have := a.pos; have := b.pos
    rcases fits_either h with ⟨u, rfl, hu⟩ | ⟨u, rfl, hu⟩
    · have := fits_depth z a u hu
      simp [encTh, PyData.depth, PyData.depthAll, Kd.leaves]; omega
    · have := fits_depth z b u hu
      simp [encTh, PyData.depth, PyData.depthAll, Kd.leaves]; omega
  | .both a b, t, h => by
    have := a.pos; have := b.pos
    obtain ⟨u, v, rfl, hu, hv⟩ := fits_both h
    have := fits_depth z a u hu
    have := fits_depth z b v hv
    simp [encTh, PyData.depth, PyData.depthAll, Kd.leaves]; omega
  | .none, t, h => (fits_none h).elim
theorem key_one {z : Sz} {k : Kd} (hk : k.leaves ≤ 8) : (∀ t, fits z k t → isI (encTh t) = true) ∨ ∀ t, fits z k t → isKB (encTh t) = true := by
  cases k with
  | name i =>
    refine .inl fun t h => ?_
    cases t <;> simp only [fits] at h
    rfl
  | none => exact .inl fun t h => (fits_none h).elim
  | one =>
    refine .inr fun t h => ?_
    have d := fits_depth z _ t h
    have q := th_kD t
    rw [fits_one h] at d q ⊢
    simp only [encTh, isKB] at d q ⊢
    rw [q, decide_eq_true (by omega)]; rfl
  | either a b =>
    refine .inr fun t h => ?_
    have d := fits_depth z _ t h
    have q := th_kD t
    rcases fits_either h with ⟨u, rfl, hu⟩ | ⟨u, rfl, hu⟩
    · simp only [encTh, isKB] at d q ⊢
      rw [q, decide_eq_true (by omega)]; rfl
    · simp only [encTh, isKB] at d q ⊢
      rw [q, decide_eq_true (by omega)]; rfl
  | both a b =>
    refine .inr fun t h => ?_
    have d := fits_depth z _ t h
    have q := th_kD t
    obtain ⟨u, v, rfl, hu, hv⟩ := fits_both h
    simp only [encTh, isKB] at d q ⊢
    rw [q, decide_eq_true (by omega)]; rfl
theorem key_ok {z : Sz} {k : Kd} (hk : k.leaves ≤ 8) {us : List Th} {u : Th} (hu : fits z k u) (hus : ∀ t ∈ us, fits z k t) : keyOk (us.map encTh) (encTh u) = true := by
  unfold keyOk
  rcases key_one (z := z) hk with h | h
  · rw [h u hu, Bool.true_and, Bool.or_eq_true]
    refine .inl (List.all_eq_true.mpr fun x hx => ?_)
    obtain ⟨t, ht, rfl⟩ := List.mem_map.mp hx
    exact h t (hus t ht)
  · rw [h u hu, Bool.true_and, Bool.or_eq_true]
    refine .inr (List.all_eq_true.mpr fun x hx => ?_)
    obtain ⟨t, ht, rfl⟩ := List.mem_map.mp hx
    exact h t (hus t ht)
theorem has_iff (us : List Th) (u : Th) : hasK (us.map encTh) (encTh u) = true ↔ u ∈ us := by
  unfold hasK
  rw [List.any_eq_true]
  constructor
  · rintro ⟨x, hx, e⟩
    obtain ⟨t, ht, rfl⟩ := List.mem_map.mp hx
    rw [← encTh_inj _ _ ((KN.kD_eqv _ _ (th_kD t) (th_kD u)).mp e)]
    exact ht
  · intro h
    exact ⟨encTh u, List.mem_map_of_mem h, (KN.kD_eqv _ _ (th_kD u) (th_kD u)).mpr rfl⟩
end KT
set_option Elab.async false
set_option linter.all false
set_option maxRecDepth 100000
namespace KT
open PySem
theorem khere_ok (n : Nat) (w : Str) (k k' : Kd) (h : hereK w k = some k') : m_kind_here (n + 1) [.str w, enc k] = some (.ok (enc k')) := by
  show runB 5 b_kind_here [.str w, enc k] = _
  have lfe : ∀ k, lf (enc k) = true := enc_lf
  rcases word5 w with rfl | rfl | rfl | rfl | hno
  · rw [here_swap] at h
    cases k <;> simp [swapK] at h <;> subst h <;>
      simp [runB, b_kind_here, sSeq, sSet, eIx, e2, eVar, eC, bindE, bindS, enc, at_0, at_1, at_2, asg_lf, asg_str, enc_lf, sIf, eEq, eqSS, sRet, eTup, eArgs, bindI, lf, lfs]
  · rw [here_group] at h
    unfold groupK at h
    split at h <;> cases h <;>
      simp [runB, b_kind_here, sSeq, sSet, eIx, e2, eVar, eC, bindE, bindS, enc, at_0, at_1, at_2, asg_lf, asg_str, enc_lf, sIf, eEq, eqSS, v04, sNext, sRet, eTup, eArgs, bindI, lf, lfs]
  · rw [here_spread] at h
    unfold spreadK at h
    split at h <;> cases h
    simp [runB, b_kind_here, sSeq, sSet, eIx, e2, eVar, eC, bindE, bindS, enc, at_0, at_1, at_2, asg_lf, asg_str, enc_lf, sIf, eEq, eqSS, v07, v08, sNext, sRet, eTup, eArgs, bindI, lf, lfs]
  · rw [here_drop] at h
    unfold dropK at h
    split at h <;> cases h <;>
      simp [runB, b_kind_here, sSeq, sSet, eIx, e2, eVar, eC, bindE, bindS, enc, at_0, at_1, at_2, asg_lf, asg_str, enc_lf, sIf, eEq, eqSS, v10, v11, v12, sNext, sRet, eIf, eAnd, w12, w08, eTup, eArgs, bindI, lf, lfs]
  · rw [here_no w k hno] at h; cases h
def kbBody : FS := (sSeq (sSet 5 (eIx (eVar 0) (eVar 4))) (sSet 3 (eIf (eEq (eIx (eVar 2) (eVar 4)) (eC (.int 0))) (eTup [(eIx (eVar 5) (eC (.int 0))), (eVar 3), (eIx (eVar 5) (eC (.int 2)))]) (eTup [(eIx (eVar 5) (eC (.int 0))), (eIx (eVar 5) (eC (.int 1))), (eVar 3)]))))
theorem put_step {k c : Kd} {s : Int} (p : List Int) (x : Kd) (h : stepK k s = some c) : ∃ a b, enc k = .tuple [.str (hd k), enc a, enc b] ∧
    enc (putK k (s :: p) x) = if s = 0 then .tuple [.str (hd k), enc (putK c p x), enc b] else .tuple [.str (hd k), enc a, enc (putK c p x)] := by
  cases k with
  | either a b =>
    refine ⟨a, b, rfl, ?_⟩
    simp only [stepK] at h
    simp only [putK]
    split at h
    · rename_i h0; cases h; rw [if_pos h0, if_pos h0]; rfl
    · rename_i h0
      split at h
      · cases h; rw [if_neg h0, if_neg h0]; rfl
      · cases h
  | both a b =>
    refine ⟨a, b, rfl, ?_⟩
    simp only [stepK] at h
    simp only [putK]
    split at h
    · rename_i h0; cases h; rw [if_pos h0, if_pos h0]; rfl
    · rename_i h0
      split at h
      · cases h; rw [if_neg h0, if_neg h0]; rfl
      · cases h
  | none => cases h
  | one => cases h
  | name _ => cases h
theorem kb_loop (k x : Kd) (p : List Int) (t : List Kd) (ht : alongT k p = some t) (x1 : Option Slot) : ∀ (j : Nat) (kj : Kd) (x4 x5 : Option Slot), j ≤ p.length → (k :: t)[j]? = some kj →
    ∃ x4' x5', forGo (tgName 4) kbBody (downFrom j) [some (.par (.list ((k :: t).map enc))), x1, some (.loc (encP p)), some (.loc (enc (putK kj (p.drop j) x))), x4, x5] =
      some (.next [some (.par (.list ((k :: t).map enc))), x1, some (.loc (encP p)), some (.loc (enc (putK k p x))), x4', x5'])
  | 0, kj, x4, x5, _, hk => by
    simp at hk
    subst hk
    exact ⟨x4, x5, rfl⟩
  | j + 1, kj, x4, x5, hj, hk => by
    obtain ⟨k0, s, kc, h1, h2, h3, h4⟩ := along_get p k t j ht (by omega)
    rw [hk] at h3
    cases h3
    have hd' : p.drop j = s :: p.drop (j + 1) := by
      obtain ⟨hl, he⟩ := List.getElem?_eq_some_iff.mp h2
      rw [List.drop_eq_getElem_cons hl, he]
    obtain ⟨a, b, e1', e2'⟩ := put_step (p.drop (j + 1)) x h4
    have q1 : atP ((k :: t).map enc) (j : Int) = some (enc k0) := atP_nat' (by rw [List.getElem?_map, h1]; rfl)
    have q2 : atP (p.map PyData.int) (j : Int) = some (.int s) := atP_nat' (by rw [List.getElem?_map, h2]; rfl)
    have q3 : dIx (.list ((k :: t).map enc)) (.int (j : Int)) = some (enc k0) := q1
    have q4 : dIx (encP p) (.int (j : Int)) = some (.int s) := q2
    obtain ⟨x4', x5', r⟩ := kb_loop k x p t ht x1 j k0 (some (.loc (.int (j : Int)))) (some (.loc (enc k0))) (by omega) h1
    refine ⟨x4', x5', ?_⟩
    rw [down_succ]
    rw [← r, hd', e2']
    refine for_next (ρ1 := [some (.par (.list ((k :: t).map enc))), x1, some (.loc (encP p)), some (.loc (enc (putK kj (p.drop (j + 1)) x))), some (.loc (.int (j : Int))), x5]) rfl ?_
    have lf1 := enc_lf k0
    rw [e1'] at q3 lf1
    clear r q1 q2
    generalize (k :: t).map enc = L at q3 ⊢
    by_cases hs : s = 0
    · subst hs
      simp [kbBody, sSeq, sSet, eIx, e2, eVar, eC, bindE, bindS, e1', q3, lf1, asg_lf, enc_lf, eIf, eEq, q4, eqII, eTup, eArgs, bindI, at_0, at_1, at_2, lf, lfs]
    · have hs' : (s == 0) = false := by simp [hs]
      simp [kbBody, sSeq, sSet, eIx, e2, eVar, eC, bindE, bindS, e1', q3, lf1, asg_lf, enc_lf, eIf, eEq, q4, eqII, hs, hs', eTup, eArgs, bindI, at_0, at_1, at_2, lf, lfs]
theorem kby_ok (n : Nat) (k x : Kd) (w : Str) (p : List Int) (t : List Kd) (ht : alongT k p = some t) (hp : p.length ≤ 900) (hx : hereK w ((k :: t).getLast (by simp)) = some x) :
    m_kind_by (n + 2) [.list ((k :: t).map enc), encT w p] = some (.ok (enc (putK k p x))) := by
  have e : b_kind_by (m_kind_here (n + 1)) = sSeq (sSet 2 (eIx (eVar 1) (eC (.int 1)))) (sSeq (sSet 3 (eCall (m_kind_here (n + 1)) [(eIx (eVar 1) (eC (.int 0))), (eIx (eVar 0) (eNeg (eC (.int 1))))])) (sSeq (sFor (iDown (eSub (eLen (eVar 2)) (eC (.int 1)))) (tgName 4) kbBody) (sRet (eVar 3)))) := rfl
  show runB 6 (b_kind_by (m_kind_here (n + 1))) [.list ((k :: t).map enc), encT w p] = _
  rw [e]
  have hl : dIx (.list (((k :: t) : List Kd).map enc)) (.int (-1)) = some (enc ((k :: t).getLast (by simp))) := atN _ _ (by rw [List.getLast?_map, List.getLast?_eq_getLast (l := k :: t) (by simp)]; rfl)
  have hk := khere_ok n w _ x hx
  have hlen := along_len p k t ht
  have hlast : (k :: t)[p.length]? = some ((k :: t).getLast (by simp)) := by
    rw [← hlen, ← List.getLast?_eq_getLast, List.getLast?_eq_getElem?]; simp
  obtain ⟨x4', x5', r⟩ := kb_loop k x p t ht (some (.par (encT w p))) p.length _ none none (Nat.le_refl _) hlast
  rw [List.drop_length] at r
  simp only [putK] at r
  have hb : ((p.length : Int) - 1).natAbs ≤ big := by unfold big; omega
  have hn : ((p.length : Int) - 1 + 1).toNat = p.length := by omega
  have hlenP : dLen (encP p) = some (.int (p.length : Int)) := by simp [dLen, encP]
  generalize hL : (k :: t).map enc = L at hl r
  simp only [encT] at r
  have lfp := lf_path p
  simp [runB, sSeq, sSet, eIx, e2, eVar, eC, bindE, bindS, encT, at_0, at_1, asg_lf, lfp, eCall, eArgs, bindI, eNeg, e1, dNeg, hl, hk, ofRC, enc_lf, sFor, iDown, eSub, eLen, hlenP, subII, hb, hn, r, sRet]
theorem turned_ok (n : Nat) (k : Kd) (w : Str) (p : List Int) (hp : p.length ≤ 900) : m_turned (n + 3) [enc k, encT w p] = match turnK k w p with
    | some k' => some (.ok (enc k'))
    | none => some (.exc 2) := by
  show runB 2 (b_turned (m_kind_by (n + 2)) (m_parts_to_turn (n + 2))) [enc k, encT w p] = _
  have h := ptt_ok n k w p hp
  unfold turnK
  rw [along_part]
  cases ht : alongT k p with
  | none =>
    rw [ht] at h
    simp only at h
    simp [runB, b_turned, sRet, eCall, eArgs, eVar, bindI, bindS, h, ofRC]
  | some t =>
    rw [ht] at h
    simp only at h
    simp only [Option.map_some, Option.bind_some]
    cases hx : hereK w ((k :: t).getLast (by simp)) with
    | none =>
      rw [hx] at h
      simp only [Option.isSome_none, Bool.false_eq_true, if_false] at h
      simp [runB, b_turned, sRet, eCall, eArgs, eVar, bindI, bindS, h, ofRC]
    | some x =>
      rw [hx] at h
      simp only [Option.isSome_some, if_true] at h
      have hk := kby_ok n k x w p t ht hp hx
      generalize (k :: t).map enc = L at h hk
      simp [runB, b_turned, sRet, eCall, eArgs, eVar, bindI, bindS, h, hk, ofRC, enc_lf]
end KT
set_option Elab.async false
set_option linter.all false
set_option maxRecDepth 100000
namespace KT
open PySem
def lpBody : FS := (sSet 0 (eIx (eVar 0) (eAdd (eC (.int 1)) (eVar 2))))
theorem lpart_loop (x1 : Option Slot) : ∀ (p : List Int) (k k' : Kd) (x2 : Option Slot) (y : PyData → Slot) (_ : ∀ d, y d = .par d ∨ y d = .loc d), partK k p = some k' →
    ∃ y', (y' = .par (enc k') ∨ y' = .loc (enc k')) ∧ ∃ x2', forGo (tgName 2) lpBody (p.map .int) [some (y (enc k)), x1, x2] = some (.next [some y', x1, x2'])
  | [], k, k', x2, y, hy, h => by simp only [partK] at h; cases h; exact ⟨_, hy _, _, rfl⟩
  | s :: p, k, k', x2, y, hy, h => by
    simp only [partK] at h
    cases hs : stepK k s with
    | none => rw [hs] at h; cases h
    | some c =>
      rw [hs] at h
      obtain ⟨h1, _, _, _⟩ := step_ix hs
      have e : lpBody [some (y (enc k)), x1, some (.loc (.int s))] = some (.next [some (.loc (enc c)), x1, some (.loc (.int s))]) := by
        rcases hy (enc k) with q | q <;> rw [q] <;> simp [lpBody, sSet, eIx, e2, eVar, eC, eAdd, dAdd, bindE, bindS, h1, asg_lf, enc_lf]
      have go : forGo (tgName 2) lpBody ((s :: p).map .int) [some (y (enc k)), x1, x2] = forGo (tgName 2) lpBody (p.map .int) _ := for_next (tg := tgName 2) (d := .int s) rfl e
      rw [go]
      exact lpart_loop x1 p c k' _ Slot.loc (fun _ => .inr rfl) h
theorem lpart_ok (n : Nat) (k k' : Kd) (p : List Int) (h : partK k p = some k') : m_law_part (n + 1) [enc k, encP p] = some (.ok (enc k')) := by
  have e : b_law_part = sSeq (sForV 1 (tgName 2) lpBody) (sRet (eVar 0)) := rfl
  show runB 3 b_law_part [enc k, encP p] = _
  rw [e]
  obtain ⟨y', hy', x2', q⟩ := lpart_loop (some (.par (encP p))) p k k' none Slot.par (fun _ => .inl rfl) h
  simp only [encP] at q
  rcases hy' with rfl | rfl <;> simp [runB, sSeq, sForV, encP, lfs_ints, q, sRet, eVar, bindS, enc_lf]
end KT
set_option Elab.async false
set_option linter.all false
set_option maxRecDepth 100000
namespace KT
open PySem
/-! ### all paths, from the first -/
def pre : Kd → List Int → List (List Int)
  | .either a b, p => p :: (pre a (p ++ [0]) ++ pre b (p ++ [1]))
  | .both a b, p => p :: (pre a (p ++ [0]) ++ pre b (p ++ [1]))
  | .none, p => [p]
  | .one, p => [p]
  | .name _, p => [p]
def sizeW : List (Kd × List Int) → Nat
  | [] => 0
  | x :: ws => 2 * x.1.leaves - 1 + sizeW ws
theorem sizeW_app : ∀ xs ys, sizeW (xs ++ ys) = sizeW xs + sizeW ys
  | [], _ => by simp [sizeW]
  | x :: xs, ys => by simp [sizeW, sizeW_app xs ys, Nat.add_assoc]
theorem sizeW_len : ∀ xs, xs.length ≤ sizeW xs
  | [] => by simp [sizeW]
  | x :: xs => by have := x.1.pos; have := sizeW_len xs; simp [sizeW]; omega
def outW (ws : List (Kd × List Int)) : List PyData := (ws.reverse.flatMap fun x => pre x.1 x.2).map encP
def encW (ws : List (Kd × List Int)) : List PyData := ws.map fun x => encP x.2
theorem lay_W : ∀ ws, PyData.canLayAll0 (encW ws) = true
  | [] => rfl
  | x :: ws => by
    have := lay_W ws
    have h : encW (x :: ws) = encP x.2 :: encW ws := rfl
    rw [h]
    simp [PyData.canLayAll0, PyData.canLay0, encP, lay_ints, this]
def psTest : FE := (eNe (eVar 2) (eLst []))
def psBody (n : Nat) : FS := (sSeq (sPop 3 2) (sSeq (sAppend 1 (eVar 3)) (sIf (eEq (eLen (eCall (m_law_part n) [(eVar 0), (eVar 3)])) (eC (.int 3))) (sExtend 2 (eLst [(eAdd (eVar 3) (eTup [(eC (.int 1))])), (eAdd (eVar 3) (eTup [(eC (.int 0))]))])) sNext)))
theorem ps_test (a b : Option Slot) (xs : List PyData) (x : Option Slot) (h : PyData.canLayAll0 xs = true) : psTest [a, b, some (.own xs), x] = some (.ok 2 (.bool (!xs.isEmpty))) := by
  simp [psTest, eNe, e2, eVar, eLst, eArgs, bindI, bindE, lfs, ne_nil xs h]
def isIn : Kd → Bool
  | .either _ _ => true
  | .both _ _ => true
  | _ => false
def klen : Kd → Int
  | .either _ _ => 3
  | .both _ _ => 3
  | .name _ => 2
  | _ => 1
theorem enc_len (k : Kd) : dLen (enc k) = some (.int (klen k)) := by cases k <;> rfl
theorem klen_in {k : Kd} (h : isIn k = true) : klen k = 3 := by cases k <;> first | rfl | cases h
theorem klen_leaf {k : Kd} (h : isIn k = false) : (klen k == 3) = false := by cases k <;> first | rfl | cases h
theorem ps_leaf (n : Nat) (K0 k : Kd) (fs : List PyData) (ws : List PyData) (p : List Int) (x3 : Option Slot) (hk : partK K0 p = some k) (hi : isIn k = false) (hf : fs.length ≤ 1000) :
    psBody (n + 1) [some (.par (enc K0)), some (.own fs), some (.own (ws ++ [encP p])), x3] = some (.next [some (.par (enc K0)), some (.own (fs ++ [encP p])), some (.own ws), some (.loc (encP p))]) := by
  have hb : fs.length < big := by unfold big; omega
  have hl : lf (encP p) = true := by simp [encP, lf, lfs_ints]
  have he := lpart_ok n K0 k p hk
  have hn := enc_len k
  have h3 := klen_leaf hi
  simp [psBody, sSeq, sPop, sAppend, eVar, bindS, hl, hb, sIf, eEq, e2, eLen, e1, eCall, eArgs, bindI, bindE, he, ofRC, hn, eC, dEq, dEqB, h3, sNext]
theorem ps_in (n : Nat) (K0 k : Kd) (fs : List PyData) (ws : List PyData) (p : List Int) (x3 : Option Slot) (hk : partK K0 p = some k) (hi : isIn k = true) (hf : fs.length ≤ 1000) (hw : ws.length ≤ 1000) (hp : p.length ≤ 100) :
    psBody (n + 1) [some (.par (enc K0)), some (.own fs), some (.own (ws ++ [encP p])), x3] = some (.next [some (.par (enc K0)), some (.own (fs ++ [encP p])), some (.own (ws ++ [encP (p ++ [1]), encP (p ++ [0])])), some (.loc (encP p))]) := by
  have hb : fs.length < big := by unfold big; omega
  have hb2 : ws.length + 2 ≤ big := by unfold big; omega
  have hl : ∀ q, lf (encP q) = true := fun q => by simp [encP, lf, lfs_ints]
  have he := lpart_ok n K0 k p hk
  have hn := enc_len k
  rw [klen_in hi] at hn
  simp [psBody, sSeq, sPop, sAppend, eVar, bindS, hl, hb, sIf, eEq, e2, eLen, e1, eCall, eArgs, bindI, bindE, he, ofRC, hn, eC, dEq, dEqB, sExtend, eLst, eAdd, eTup, add_path p _ (by omega), lfs, hb2]
theorem ps_loop (n : Nat) (K0 : Kd) : ∀ (fuel : Nat) (ws : List (Kd × List Int)) (fs : List PyData) (x3 : Option Slot), (∀ x ∈ ws, partK K0 x.2 = some x.1 ∧ x.2.length + x.1.leaves ≤ 100) → sizeW ws < fuel → fs.length + sizeW ws ≤ 1000 →
    ∃ x3', whileGo psTest (psBody (n + 1)) fuel [some (.par (enc K0)), some (.own fs), some (.own (encW ws)), x3] = some (.next [some (.par (enc K0)), some (.own (fs ++ outW ws)), some (.own []), x3'])
  | 0, _, _, _, _, h, _ => by omega
  | fuel + 1, ws, fs, x3, hall, hfu, hsz => by
    rcases List.eq_nil_or_concat ws with rfl | ⟨ws, ⟨k, p⟩, rfl⟩
    · exact ⟨x3, by simp [whileGo, ps_test _ _ _ _ (lay_W []), bindS, encW, outW]; rw [ps_test _ _ _ _ rfl]; simp⟩
    · rw [List.concat_eq_append] at *
      obtain ⟨hk, hlen⟩ := hall (k, p) (by simp)
      simp only at hk hlen
      have hrest : ∀ x ∈ ws, partK K0 x.2 = some x.1 ∧ x.2.length + x.1.leaves ≤ 100 := fun x hx => hall x (by simp [hx])
      rw [sizeW_app] at hfu hsz
      simp only [sizeW] at hfu hsz
      have hpos := k.pos
      have hwl := sizeW_len ws
      have hwl' : (encW ws).length ≤ 1000 := by simp [encW]; omega
      have hne : (encW (ws ++ [(k, p)])).isEmpty = false := by simp [encW]
      have ew : encW (ws ++ [(k, p)]) = encW ws ++ [encP p] := by simp [encW]
      unfold whileGo
      rw [ps_test _ _ _ _ (lay_W _), hne, ew]
      by_cases hi : isIn k = true
      · have t := ps_in n K0 k fs (encW ws) p x3 hk hi (by omega) hwl' (by omega)
        obtain ⟨a, b, hab, hpre⟩ : ∃ a b, k.leaves = a.leaves + b.leaves ∧ (∀ q, pre k q = q :: (pre a (q ++ [0]) ++ pre b (q ++ [1]))) ∧ (partK k [0] = some a ∧ partK k [1] = some b) := by
          cases k with
          | either a b => exact ⟨a, b, rfl, fun q => rfl, by simp [partK, stepK], by simp [partK, stepK]⟩
          | both a b => exact ⟨a, b, rfl, fun q => rfl, by simp [partK, stepK], by simp [partK, stepK]⟩
          | none => cases hi
          | one => cases hi
          | name _ => cases hi
        obtain ⟨hpre, ha, hb⟩ := hpre
        have pa := a.pos
        have pb := b.pos
        obtain ⟨x3', e⟩ := ps_loop n K0 fuel (ws ++ [(b, p ++ [1]), (a, p ++ [0])]) (fs ++ [encP p]) (some (.loc (encP p))) (fun x hx => by
          rcases List.mem_append.mp hx with hx | hx
          · exact hrest x hx
          · simp only [List.mem_cons, List.not_mem_nil, or_false] at hx
            rcases hx with rfl | rfl
            · exact ⟨by show partK K0 (p ++ [1]) = some b; rw [partK_app, hk]; exact hb, by show (p ++ [1]).length + b.leaves ≤ 100; simp; omega⟩
            · exact ⟨by show partK K0 (p ++ [0]) = some a; rw [partK_app, hk]; exact ha, by show (p ++ [0]).length + a.leaves ≤ 100; simp; omega⟩) (by rw [sizeW_app]; simp only [sizeW]; omega) (by rw [sizeW_app]; simp only [sizeW, List.length_append, List.length_singleton]; omega)
        refine ⟨x3', ?_⟩
        have e1' : encW (ws ++ [(b, p ++ [1]), (a, p ++ [0])]) = encW ws ++ [encP (p ++ [1]), encP (p ++ [0])] := by simp [encW]
        have e2' : fs ++ [encP p] ++ outW (ws ++ [(b, p ++ [1]), (a, p ++ [0])]) = fs ++ outW (ws ++ [(k, p)]) := by simp [outW, hpre]
        rw [e1', e2'] at e
        simp only [bindS, Bool.not_false, t]
        exact e
      · have hi' : isIn k = false := by simpa using hi
        have t := ps_leaf n K0 k fs (encW ws) p x3 hk hi' (by omega)
        have hpre : pre k p = [p] := by cases k <;> first | rfl | cases hi'
        obtain ⟨x3', e⟩ := ps_loop n K0 fuel ws (fs ++ [encP p]) (some (.loc (encP p))) hrest (by omega) (by simp only [List.length_append, List.length_singleton]; omega)
        refine ⟨x3', ?_⟩
        have e2' : fs ++ [encP p] ++ outW ws = fs ++ outW (ws ++ [(k, p)]) := by simp [outW, hpre]
        rw [e2'] at e
        simp only [bindS, Bool.not_false, t]
        exact e
theorem paths_ok (n : Nat) (k : Kd) (h : k.leaves ≤ 50) : m_law_paths (n + 2) [enc k] = some (.ok (.list ((pre k []).map encP))) := by
  have e : b_law_paths (m_law_part (n + 1)) = sSeq (sSet 1 (eLst [])) (sSeq (sSet 2 (eLst [(eTup [])])) (sSeq (sWhile psTest (psBody (n + 1))) (sRet (eVar 1)))) := rfl
  show runB 4 (b_law_paths (m_law_part (n + 1))) [enc k] = _
  rw [e]
  obtain ⟨x3', q⟩ := ps_loop n k wFuel [(k, [])] [] none (fun x hx => by simp at hx; subst hx; exact ⟨by simp [partK], by simp; omega⟩) (by simp only [sizeW]; unfold wFuel; omega) (by simp only [sizeW, List.length_nil]; omega)
  have e1' : encW [(k, [])] = [.tuple []] := rfl
  have e2' : [] ++ outW [(k, [])] = (pre k []).map encP := by simp [outW]
  rw [e1', e2'] at q
  simp [runB, sSeq, sSet, eLst, eTup, eArgs, bindI, bindS, lfs, lf, asg, sWhile, q, sRet, eVar]
/-! the paths are just those that lead to a part -/
theorem pre_mem : ∀ (k : Kd) (p q : List Int), q ∈ pre k p ↔ ∃ r, q = p ++ r ∧ (partK k r).isSome = true := by
  have leaf : ∀ (p q : List Int) (k : Kd), pre k p = [p] → (∀ s r, partK k (s :: r) = none) → (q ∈ pre k p ↔ ∃ r, q = p ++ r ∧ (partK k r).isSome = true) := fun p q k h1 h2 => by
    rw [h1]
    constructor
    · intro h
      rw [List.mem_singleton] at h
      exact ⟨[], by simp [h], by simp [partK]⟩
    · rintro ⟨r, rfl, h⟩
      cases r with
      | nil => simp
      | cons s r => rw [h2 s r] at h; cases h
  have inner : ∀ (p q : List Int) (k a b : Kd), pre k p = p :: (pre a (p ++ [0]) ++ pre b (p ++ [1])) → (∀ s r, partK k (s :: r) = if s = 0 then partK a r else if s = 1 then partK b r else none) →
      (q ∈ pre a (p ++ [0]) ↔ ∃ r, q = p ++ [0] ++ r ∧ (partK a r).isSome = true) → (q ∈ pre b (p ++ [1]) ↔ ∃ r, q = p ++ [1] ++ r ∧ (partK b r).isSome = true) →
      (q ∈ pre k p ↔ ∃ r, q = p ++ r ∧ (partK k r).isSome = true) := fun p q k a b h1 h2 ha hb => by
    rw [h1, List.mem_cons, List.mem_append, ha, hb]
    constructor
    · rintro (rfl | ⟨r, rfl, h⟩ | ⟨r, rfl, h⟩)
      · exact ⟨[], by simp, by simp [partK]⟩
      · exact ⟨0 :: r, by simp, by rw [h2, if_pos rfl]; exact h⟩
      · exact ⟨1 :: r, by simp, by rw [h2, if_neg (by decide), if_pos rfl]; exact h⟩
    · rintro ⟨r, rfl, h⟩
      cases r with
      | nil => exact .inl (by simp)
      | cons s r =>
        rw [h2] at h
        by_cases h0 : s = 0
        · rw [if_pos h0] at h; subst h0; exact .inr (.inl ⟨r, by simp, h⟩)
        · rw [if_neg h0] at h
          by_cases h1' : s = 1
          · rw [if_pos h1'] at h; subst h1'; exact .inr (.inr ⟨r, by simp, h⟩)
          · rw [if_neg h1'] at h; cases h
  intro k
  induction k with
  | none => intro p q; exact leaf p q _ rfl fun _ _ => rfl
  | one => intro p q; exact leaf p q _ rfl fun _ _ => rfl
  | name i => intro p q; exact leaf p q _ rfl fun _ _ => rfl
  | either a b ha hb => intro p q; exact inner p q _ a b rfl (fun s r => by simp only [partK, stepK]; split; rfl; split <;> rfl) (ha _ q) (hb _ q)
  | both a b ha hb => intro p q; exact inner p q _ a b rfl (fun s r => by simp only [partK, stepK]; split; rfl; split <;> rfl) (ha _ q) (hb _ q)
end KT
set_option Elab.async false
set_option linter.all false
set_option maxRecDepth 100000
namespace KT
open PySem
/-! ### the turned kind, put together -/
def optD : Option Kd → PyData
  | some k => enc k
  | none => .none
theorem len_inn {k : Kd} (h : inn k = true) : dLen (enc k) = some (.int 3) := by cases k <;> first | rfl | cases h
theorem len_leaf {k : Kd} (h : inn k = false) : ∃ m : Int, dLen (enc k) = some (.int m) ∧ decide (m < 3) = true := by cases k <;> first | exact ⟨_, rfl, rfl⟩ | cases h
theorem lt_ii (i j : Int) : dLt (.int i) (.int j) = some (.bool (decide (i < j))) := rfl
theorem pair_in (x y : Str) (hx : PyData.strOk x = true) (hy : PyData.strOk y = true) : dIn (.tuple [.str x, .str y]) (.tuple [.tuple [.str "both", .str "one"], .tuple [.str "either", .str "none"]]) =
    some (.bool ((("both" : Str) == x && ("one" : Str) == y) || (("either" : Str) == x && ("none" : Str) == y))) := by
  have h1 : inOk (.tuple [.str x, .str y]) [.tuple [.str "both", .str "one"], .tuple [.str "either", .str "none"]] = true := by
    simp [inOk, PyData.canLay0, PyData.canLayAll0, hx, hy, ok_both, ok_one, ok_either, ok_none, PyData.depth, PyData.depthAll]
  simp [dIn, dInB, h1, PyData.eqv, PyData.eqvAll]
theorem wz1 : (("none" : Str) == "name") = false := by decide +kernel
theorem wz2 : (("one" : Str) == "name") = false := by decide +kernel
def restH : FS := (sSeq (sIf (eEq (eVar 1) (eC (.str "swap"))) (sRet (eTup [(eIx (eVar 0) (eC (.int 0))), (eVar 3), (eVar 2)])) sNext) (sSeq (sIf (eAnd (eEq (eVar 1) (eC (.str "group"))) (eEq (eIx (eVar 2) (eC (.int 0))) (eIx (eVar 0) (eC (.int 0))))) (sRet (eTup [(eIx (eVar 0) (eC (.int 0))), (eIx (eVar 2) (eC (.int 1))), (eTup [(eIx (eVar 0) (eC (.int 0))), (eIx (eVar 2) (eC (.int 2))), (eVar 3)])])) sNext) (sSeq (sIf (eAnd (eEq (eVar 1) (eC (.str "spread"))) (eAnd (eEq (eIx (eVar 0) (eC (.int 0))) (eC (.str "both"))) (eEq (eIx (eVar 3) (eC (.int 0))) (eC (.str "either"))))) (sRet (eTup [(eC (.str "either")), (eTup [(eC (.str "both")), (eVar 2), (eIx (eVar 3) (eC (.int 1)))]), (eTup [(eC (.str "both")), (eVar 2), (eIx (eVar 3) (eC (.int 2)))])])) sNext) (sSeq (sIf (eAnd (eEq (eVar 1) (eC (.str "drop"))) (eAnd (eEq (eIx (eVar 0) (eC (.int 0))) (eC (.str "both"))) (eEq (eIx (eVar 2) (eC (.int 0))) (eC (.str "none"))))) (sRet (eTup [(eC (.str "none"))])) sNext) (sSeq (sIf (eAnd (eEq (eVar 1) (eC (.str "drop"))) (eIn (eTup [(eIx (eVar 0) (eC (.int 0))), (eIx (eVar 2) (eC (.int 0)))]) (eTup [(eTup [(eC (.str "both")), (eC (.str "one"))]), (eTup [(eC (.str "either")), (eC (.str "none"))])]))) (sRet (eVar 3)) sNext) (sRet (eC .none)))))))
theorem lhere_ok (n : Nat) (w : Str) (k : Kd) : m_law_here (n + 1) [enc k, .str w] = some (.ok (optD (hereK w k))) := by
  show runB 4 b_law_here [enc k, .str w] = _
  cases hi : inn k with
  | false =>
    obtain ⟨m, e1', e2'⟩ := len_leaf hi
    rw [here_leaf w k hi]
    have e2'' : m < 3 := of_decide_eq_true e2'
    refine run_ret (b := b_law_here) ?_
    unfold b_law_here
    refine (if_retT (l := 2) ?_).trans rfl
    simp [eLt, e2, eLen, e1, eVar, eC, bindE, e1', lt_ii, e2'']
  | true =>
    obtain ⟨a, b, e, hk⟩ : ∃ a b, enc k = .tuple [.str (hd k), enc a, enc b] ∧ (k = .either a b ∨ k = .both a b) := by
      cases k with
      | either a b => exact ⟨a, b, rfl, .inl rfl⟩
      | both a b => exact ⟨a, b, rfl, .inr rfl⟩
      | none => cases hi
      | one => cases hi
      | name _ => cases hi
    have start : restH [some (.par (enc k)), some (.par (.str w)), some (.loc (enc a)), some (.loc (enc b))] = some (.ret (optD (hereK w k))) → runB 4 b_law_here [enc k, .str w] = some (.ok (optD (hereK w k))) := fun h => by
      have el := len_inn hi
      refine run_ret (b := b_law_here) ?_
      have eb : b_law_here = sSeq (sIf (eLt (eLen (eVar 0)) (eC (.int 3))) (sRet (eC .none)) sNext) (sSeq (sSet 2 (eIx (eVar 0) (eC (.int 1)))) (sSeq (sSet 3 (eIx (eVar 0) (eC (.int 2)))) restH)) := rfl
      rw [eb]
      refine (if_retF (l := 2) ?_).trans (Eq.trans ?_ h)
      · simp [eLt, e2, eLen, e1, eVar, eC, bindE, el, lt_ii]
      · generalize restH = RH
        have e1' : dIx (enc k) (.int 1) = some (enc a) := by rw [e]; exact at_1 _ _ _
        have e2' : dIx (enc k) (.int 2) = some (enc b) := by rw [e]; exact at_2 _ _ _ _
        simp [sSeq, sSet, eIx, e2, eVar, eC, bindE, bindS, e1', e2', asg_lf, enc_lf]
    refine start ?_
    have v0 : eVar 0 [some (.par (enc k)), some (.par (.str w)), some (.loc (enc a)), some (.loc (enc b))] = some (.ok 0 (enc k)) := rfl
    have v1 : eVar 1 [some (.par (enc k)), some (.par (.str w)), some (.loc (enc a)), some (.loc (enc b))] = some (.ok 0 (.str w)) := rfl
    have v2 : eVar 2 [some (.par (enc k)), some (.par (.str w)), some (.loc (enc a)), some (.loc (enc b))] = some (.ok 1 (enc a)) := rfl
    have v3 : eVar 3 [some (.par (enc k)), some (.par (.str w)), some (.loc (enc a)), some (.loc (enc b))] = some (.ok 1 (enc b)) := rfl
    generalize [some (Slot.par (enc k)), some (.par (.str w)), some (.loc (enc a)), some (.loc (enc b))] = R at v0 v1 v2 v3
    have vC : ∀ s : Str, eC (.str s) R = some (.ok 2 (.str s)) := fun s => rfl
    have k0 := ixT v0 (i := 0) (enc_hd k)
    have a0 := ixT v2 (i := 0) (enc_hd a)
    have b0 := ixT v3 (i := 0) (enc_hd b)
    have hp := pair_in (hd k) (hd a) (hd_ok k) (hd_ok a)
    have iR : ∀ r : Bool, ((("both" : Str) == hd k && ("one" : Str) == hd a) || (("either" : Str) == hd k && ("none" : Str) == hd a)) = r → eIn (eTup [(eIx (eVar 0) (eC (.int 0))), (eIx (eVar 2) (eC (.int 0)))]) (eTup [(eTup [(eC (.str "both")), (eC (.str "one"))]), (eTup [(eC (.str "either")), (eC (.str "none"))])]) R = some (.ok 2 (.bool r)) := fun r h => by
      rw [h] at hp
      simp only [eIn, e2, eTup, eArgs, k0, a0, eC, bindI, bindE, hp, Option.map, if_true]
    unfold restH
    rcases word5 w with rfl | rfl | rfl | rfl | ⟨h1, h2, h3, h4⟩
    · rw [if_retT (eqT v1 (vC _) (by simp)), here_swap]
      refine (retT (tup3 k0 v3 v2) ?_).trans ?_
      · simp [lf, lfs, enc_lf]
      · rcases hk with rfl | rfl <;> rfl
    · rw [if_retF (eqT v1 (vC _) v04), here_group]
      cases hg : groupK k with
      | some k' =>
        unfold groupK at hg
        have gw := eqT v1 (vC _) (beq_self_eq_true ("group" : Str))
        split at hg
        · rcases hk with hk | hk <;> cases hk
          cases hg
          rw [if_retT ((andT gw).trans (eqT a0 k0 (by simp [hd])))]
          exact retT (tup3 k0 (ixT v2 (at_1 _ _ _)) (tup3 k0 (ixT v2 (at_2 _ _ _ _)) v3)) (enc_lf _)
        · rcases hk with hk | hk <;> cases hk
          cases hg
          rw [if_retT ((andT gw).trans (eqT a0 k0 (by simp [hd])))]
          exact retT (tup3 k0 (ixT v2 (at_1 _ _ _)) (tup3 k0 (ixT v2 (at_2 _ _ _ _)) v3)) (enc_lf _)
        · cases hg
      | none =>
        have hh : (hd a == hd k) = false := by
          rcases hk with rfl | rfl <;> cases a <;> simp only [hd, w13, w15, w17, w07, w14, w16, w18, w12] <;> simp [groupK] at hg
        rw [if_retF ((andT (eqT v1 (vC _) (beq_self_eq_true ("group" : Str)))).trans (eqT a0 k0 hh)), if_retF (andF (eqT v1 (vC _) v05)), if_retF (andF (eqT v1 (vC _) v06)), if_retF (andF (eqT v1 (vC _) v06))]
        rfl
    · rw [if_retF (eqT v1 (vC _) v07), if_retF (andF (eqT v1 (vC _) v08)), here_spread]
      have gw := eqT v1 (vC _) (beq_self_eq_true ("spread" : Str))
      cases hg : spreadK k with
      | some k' =>
        unfold spreadK at hg
        split at hg
        · rcases hk with hk | hk <;> cases hk
          cases hg
          rw [if_retT ((andT gw).trans ((andT (eqT k0 (vC _) (by simp [hd]))).trans (eqT b0 (vC _) (by simp [hd]))))]
          exact retT (tup3 (vC _) (tup3 (vC _) v2 (ixT v3 (at_1 _ _ _))) (tup3 (vC _) v2 (ixT v3 (at_2 _ _ _ _)))) (enc_lf _)
        · cases hg
      | none =>
        have hh : (hd k == "both" && hd b == "either") = false := by
          rcases hk with rfl | rfl
          · simp only [hd, w12, Bool.false_and]
          · cases b <;> simp only [hd, w13, w15, w17, w07] <;> first | (simp [spreadK] at hg; done) | simp
        have hc : eAnd (eEq (eIx (eVar 0) (eC (.int 0))) (eC (.str "both"))) (eEq (eIx (eVar 3) (eC (.int 0))) (eC (.str "either"))) R = some (.ok 2 (.bool false)) := by
          cases hb : hd k == "both" with
          | false => exact andF (eqT k0 (vC _) hb)
          | true => rw [hb, Bool.true_and] at hh; exact (andT (eqT k0 (vC _) hb)).trans (eqT b0 (vC _) hh)
        rw [if_retF ((andT gw).trans hc), if_retF (andF (eqT v1 (vC _) v09)), if_retF (andF (eqT v1 (vC _) v09))]
        rfl
    · rw [if_retF (eqT v1 (vC _) v10), if_retF (andF (eqT v1 (vC _) v11)), if_retF (andF (eqT v1 (vC _) v12)), here_drop]
      have gw := eqT v1 (vC _) (beq_self_eq_true ("drop" : Str))
      rcases hk with rfl | rfl
      · rw [if_retF ((andT gw).trans (andF (eqT k0 (vC _) w12)))]
        cases a with
        | none => rw [if_retT ((andT gw).trans (iR _ (by simp [hd, w07])))]; exact retT v3 (enc_lf _)
        | one => rw [if_retF ((andT gw).trans (iR _ (by simp [hd, w07, w11])))]; rfl
        | name i => rw [if_retF ((andT gw).trans (iR _ (by simp [hd, w07, wz1])))]; rfl
        | either _ _ => rw [if_retF ((andT gw).trans (iR _ (by simp [hd, w07, w13])))]; rfl
        | both _ _ => rw [if_retF ((andT gw).trans (iR _ (by simp [hd, w07, w14])))]; rfl
      · have kb := eqT k0 (vC "both") (show (hd (.both a b) == "both") = true by simp [hd])
        cases a with
        | none => rw [if_retT ((andT gw).trans ((andT kb).trans (eqT a0 (vC _) (by simp [hd]))))]; rfl
        | one => rw [if_retF ((andT gw).trans ((andT kb).trans (eqT a0 (vC _) w08))), if_retT ((andT gw).trans (iR _ (by simp [hd])))]; exact retT v3 (enc_lf _)
        | name i => rw [if_retF ((andT gw).trans ((andT kb).trans (eqT a0 (vC _) w09))), if_retF ((andT gw).trans (iR _ (by simp [hd, w12, wz2])))]; rfl
        | either _ _ => rw [if_retF ((andT gw).trans ((andT kb).trans (eqT a0 (vC _) w01))), if_retF ((andT gw).trans (iR _ (by simp [hd, w12, w15])))]; rfl
        | both _ _ => rw [if_retF ((andT gw).trans ((andT kb).trans (eqT a0 (vC _) w04))), if_retF ((andT gw).trans (iR _ (by simp [hd, w12, w16])))]; rfl
    · rw [if_retF (eqT v1 (vC _) h1), if_retF (andF (eqT v1 (vC _) h2)), if_retF (andF (eqT v1 (vC _) h3)), if_retF (andF (eqT v1 (vC _) h4)), if_retF (andF (eqT v1 (vC _) h4)), here_no w k ⟨h1, h2, h3, h4⟩]
      rfl
end KT
set_option Elab.async false
set_option linter.all false
set_option maxRecDepth 100000
namespace KT
open PySem
theorem mem_pre (k : Kd) (q : List Int) : q ∈ pre k [] ↔ (partK k q).isSome = true := by
  rw [pre_mem]
  constructor
  · rintro ⟨r, rfl, h⟩; simpa using h
  · intro h; exact ⟨q, by simp, h⟩
end KT
set_option Elab.async false
set_option linter.all false
set_option maxRecDepth 100000
namespace KT
open PySem
theorem notN_enc (k : Kd) : dNotN (enc k) .none = some (.bool true) := by cases k <;> rfl
theorem notN_none : dNotN .none .none = some (.bool false) := rfl
/-! ### all turnings that go -/
def encTs (ts : List (Str × List Int)) : List PyData := ts.map fun t => encT t.1 t.2
theorem lf_encT (w : Str) (p : List Int) : lf (encT w p) = true := by simp [encT, lf, lfs, lf_path]
theorem lfs_encTs : ∀ ts, lfs (encTs ts) = true
  | [] => rfl
  | t :: ts => by
    show (lf (encT t.1 t.2) && lfs (encTs ts)) = true
    simp [lf_encT, lfs_encTs ts]
def wTest (n : Nat) : FS := (sIf (eNotN (eCall (m_law_here n) [(eCall (m_law_part n) [(eVar 0), (eVar 2)]), (eVar 3)]) (eC .none)) (sAppend 1 (eTup [(eVar 3), (eVar 2)])) sNext)
def four : FE := (eLst [(eC (.str "swap")), (eC (.str "group")), (eC (.str "spread")), (eC (.str "drop"))])
def GoesIn (k : Kd) (t : Str × List Int) : Prop := (turnK k t.1 t.2).isSome = true
theorem w_test (n : Nat) (k x : Kd) (p : List Int) (w : Str) (ts : List (Str × List Int)) (hx : partK k p = some x) (hl : ts.length ≤ 5000) (hT : ∀ t ∈ ts, GoesIn k t) :
    ∃ ts', ts.length ≤ ts'.length ∧ ts'.length ≤ ts.length + 1 ∧ (∀ t ∈ ts', GoesIn k t) ∧ wTest (n + 1) [some (.par (enc k)), some (.own (encTs ts)), some (.loc (encP p)), some (.loc (.str w))] = some (.next [some (.par (enc k)), some (.own (encTs ts')), some (.loc (encP p)), some (.loc (.str w))]) := by
  have h1 := lpart_ok n k x p hx
  have h2 := lhere_ok n w x
  have hb : (encTs ts).length < big := by simp [encTs]; unfold big; omega
  cases hy : hereK w x with
  | none =>
    rw [hy] at h2
    simp only [optD] at h2
    exact ⟨ts, by omega, by omega, hT, by simp [wTest, sIf, eNotN, e2, eCall, eArgs, eVar, bindI, bindE, bindS, h1, h2, ofRC, eC, notN_none, sNext]⟩
  | some y =>
    rw [hy] at h2
    simp only [optD] at h2
    refine ⟨ts ++ [(w, p)], by simp, by simp, fun t ht => ?_, ?_⟩
    · rcases List.mem_append.mp ht with ht | ht
      · exact hT t ht
      · simp only [List.mem_singleton] at ht
        subst ht
        simp [GoesIn, turnK, hx, hy]
    · have hlf := lf_encT w p
      simp only [encT] at hlf
      have e : encTs (ts ++ [(w, p)]) = encTs ts ++ [.tuple [.str w, encP p]] := by simp [encTs, encT]
      rw [e]
      simp [wTest, sIf, eNotN, e2, eCall, eArgs, eVar, bindI, bindE, bindS, h1, h2, ofRC, eC, notN_enc, sAppend, eTup, hlf, hb]
theorem w_four (n : Nat) (k x : Kd) (p : List Int) (ts : List (Str × List Int)) (x3 : Option Slot) (hx : partK k p = some x) (hl : ts.length ≤ 4000) (hT : ∀ t ∈ ts, GoesIn k t) :
    ∃ ts' x3', ts.length ≤ ts'.length ∧ ts'.length ≤ ts.length + 4 ∧ (∀ t ∈ ts', GoesIn k t) ∧ sFor (iSeq four) (tgName 3) (wTest (n + 1)) [some (.par (enc k)), some (.own (encTs ts)), some (.loc (encP p)), x3] = some (.next [some (.par (enc k)), some (.own (encTs ts')), some (.loc (encP p)), x3']) := by
  obtain ⟨t1, a1, b1, c1, d1⟩ := w_test n k x p "swap" ts hx (by omega) hT
  obtain ⟨t2, a2, b2, c2, d2⟩ := w_test n k x p "group" t1 hx (by omega) c1
  obtain ⟨t3, a3, b3, c3, d3⟩ := w_test n k x p "spread" t2 hx (by omega) c2
  obtain ⟨t4, a4, b4, c4, d4⟩ := w_test n k x p "drop" t3 hx (by omega) c3
  refine ⟨t4, some (.loc (.str "drop")), by omega, by omega, c4, ?_⟩
  simp [sFor, iSeq, four, eLst, eArgs, eC, bindI, lfs, lf, forGo, tgName, d1, d2, d3, d4]
theorem all_loop (n : Nat) (k : Kd) : ∀ (ps : List (List Int)) (ts : List (Str × List Int)) (x2 x3 : Option Slot), (∀ p ∈ ps, (partK k p).isSome = true) → ts.length + 4 * ps.length ≤ 4000 → (∀ t ∈ ts, GoesIn k t) →
    ∃ ts' x2' x3', (∀ t ∈ ts', GoesIn k t) ∧ ts'.length ≤ ts.length + 4 * ps.length ∧ forGo (tgName 2) (sFor (iSeq four) (tgName 3) (wTest (n + 1))) (ps.map encP) [some (.par (enc k)), some (.own (encTs ts)), x2, x3] = some (.next [some (.par (enc k)), some (.own (encTs ts')), x2', x3'])
  | [], ts, x2, x3, _, _, hT => ⟨ts, x2, x3, hT, by simp, rfl⟩
  | p :: ps, ts, x2, x3, hp, hl, hT => by
    simp only [List.length_cons] at hl
    obtain ⟨x, hx⟩ := Option.isSome_iff_exists.mp (hp p (by simp))
    obtain ⟨t1, y3, a1, b1, c1, d1⟩ := w_four n k x p ts x3 hx (by omega) hT
    obtain ⟨t2, z2, z3, e1', e2', e3'⟩ := all_loop n k ps t1 (some (.loc (encP p))) y3 (fun q hq => hp q (by simp [hq])) (by omega) c1
    refine ⟨t2, z2, z3, e1', by simp only [List.length_cons]; omega, ?_⟩
    rw [← e3']
    exact for_next (tg := tgName 2) (d := encP p) rfl d1
theorem pre_len : ∀ (k : Kd) (p : List Int), (pre k p).length + 1 = 2 * k.leaves
  | .none, p => rfl
  | .one, p => rfl
  | .name _, p => rfl
  | .either a b, p => by have := pre_len a (p ++ [0]); have := pre_len b (p ++ [1]); simp only [pre, List.length_cons, List.length_append, Kd.leaves]; omega
  | .both a b, p => by have := pre_len a (p ++ [0]); have := pre_len b (p ++ [1]); simp only [pre, List.length_cons, List.length_append, Kd.leaves]; omega
theorem all_ok (n : Nat) (k : Kd) (hk : k.leaves ≤ 45) : ∃ ts, m_law_all_turnings (n + 3) [enc k] = some (.ok (.list (encTs ts))) ∧ (∀ t ∈ ts, GoesIn k t) ∧ ts.length ≤ 400 := by
  have e : b_law_all_turnings (m_law_here (n + 2)) (m_law_part (n + 2)) (m_law_paths (n + 2)) = sSeq (sSet 1 (eLst [])) (sSeq (sFor (iSeq (eCall (m_law_paths (n + 2)) [(eVar 0)])) (tgName 2) (sFor (iSeq four) (tgName 3) (wTest (n + 2)))) (sRet (eVar 1))) := rfl
  have hp := paths_ok n k (by omega)
  have hlen := pre_len k []
  obtain ⟨ts, x2, x3, h1, h2, h3⟩ := all_loop (n + 1) k (pre k []) [] none none (fun p hp => (mem_pre k p).mp hp) (by simp; omega) (by simp)
  refine ⟨ts, ?_, h1, by simp at h2; omega⟩
  show runB 4 (b_law_all_turnings (m_law_here (n + 2)) (m_law_part (n + 2)) (m_law_paths (n + 2))) [enc k] = _
  rw [e]
  have h3' : forGo (tgName 2) (sFor (iSeq four) (tgName 3) (wTest (n + 2))) ((pre k []).map encP) [some (.par (enc k)), some (.own []), none, none] = _ := h3
  simp [runB, sSeq, sSet, eLst, eArgs, bindI, bindS, asg, lf, lfs, sFor, iSeq, eCall, eVar, hp, ofRC, lfs_paths, h3', sRet]
end KT
set_option Elab.async false
set_option linter.all false
set_option maxRecDepth 100000
namespace KT
open PySem
theorem count_ok {z : Sz} (hz : z.In 0 1000000) : ∀ (k : Kd) (n : Nat), k.leaves ≤ n → k.leaves ≤ 12 → k.Ok → m_count n [enc k, encS z] = some (.ok (.int (cnt z k)))
  | .none, n + 1, _, _, _ => by
    unfold m_count
    simp [runB, b_count, sSeq, sSet, eIx, e2, eVar, eC, bindE, bindS, enc, dIx, atP, ixP, asg, lf, sIf, eEq, dEq, dEqB, sRet, cnt]
  | .one, n + 1, _, _, _ => by
    unfold m_count
    simp [runB, b_count, sSeq, sSet, eIx, e2, eVar, eC, bindE, bindS, enc, dIx, atP, ixP, asg, lf, sIf, eEq, dEq, dEqB, sRet, cnt, w08, sNext]
  | .name i, n + 1, _, _, ⟨h0, h3⟩ => by
    unfold m_count
    have e0 : ∀ xs : List PyData, atP (PyData.str "name" :: xs) 0 = some (.str "name") := fun xs => by simp [atP, ixP]
    have e1 : atP [PyData.str "name", .int i] 1 = some (.int i) := rfl
    simp [runB, b_count, sSeq, sSet, eIx, e2, eVar, eC, bindE, bindS, enc, dIx, e0, e1, at_sz h0 h3, encS, asg, lf, sIf, eEq, dEq, dEqB, sRet, cnt, w09, w10, sNext]
  | .either a b, n + 1, hn, h8, ⟨oa, ob⟩ => by
    have pa := a.pos
    have pb := b.pos
    simp only [Kd.leaves] at hn h8
    have ea := count_ok hz a n (by omega) (by omega) oa
    have eb := count_ok hz b n (by omega) (by omega) ob
    unfold m_count
    have e0 : atP [PyData.str "either", enc a, enc b] 0 = some (.str "either") := rfl
    have e1 : atP [PyData.str "either", enc a, enc b] 1 = some (enc a) := rfl
    have e2' : atP [PyData.str "either", enc a, enc b] 2 = some (enc b) := rfl
    simp [runB, b_count, sSeq, sSet, eIx, e2, eVar, eC, bindE, bindS, enc, dIx, e0, e1, e2', asg, lf, sIf, eEq, dEq, dEqB, sRet, cnt, w01, w02, w03, sNext, eCall, eArgs, bindI, ea, eb, ofRC, eIf, eAdd, dAdd]
  | .both a b, n + 1, hn, h8, ⟨oa, ob⟩ => by
    have pa := a.pos
    have pb := b.pos
    simp only [Kd.leaves] at hn h8
    have ea := count_ok hz a n (by omega) (by omega) oa
    have eb := count_ok hz b n (by omega) (by omega) ob
    have em := cnt_mul hz (a := a) (b := b) (by omega) (by omega)
    unfold m_count
    have e0 : atP [PyData.str "both", enc a, enc b] 0 = some (.str "both") := rfl
    have e1 : atP [PyData.str "both", enc a, enc b] 1 = some (enc a) := rfl
    have e2' : atP [PyData.str "both", enc a, enc b] 2 = some (enc b) := rfl
    simp [runB, b_count, sSeq, sSet, eIx, e2, eVar, eC, bindE, bindS, enc, dIx, e0, e1, e2', asg, lf, sIf, eEq, dEq, dEqB, sRet, cnt, w04, w05, w06, w07, sNext, eCall, eArgs, bindI, ea, eb, ofRC, eIf, eMul, dMul, em]
  | .none, 0, h, _, _ => by simp [Kd.leaves] at h
  | .one, 0, h, _, _ => by simp [Kd.leaves] at h
  | .name _, 0, h, _, _ => by simp [Kd.leaves] at h
  | .either a b, 0, h, _, _ => by have := a.pos; simp only [Kd.leaves] at h; omega
  | .both a b, 0, h, _, _ => by have := a.pos; simp only [Kd.leaves] at h; omega
end KT
set_option Elab.async false
set_option linter.all false
set_option maxRecDepth 100000
namespace KT
open PySem
theorem lcount_ok {z : Sz} (hz : z.In 0 1000000) : ∀ (k : Kd) (n : Nat), k.leaves ≤ n → k.leaves ≤ 12 → k.Ok → m_law_count n [enc k, encS z] = some (.ok (.int (cnt z k)))
  | .none, n + 1, _, _, _ => by
    unfold m_law_count
    simp [runB, b_law_count, sSeq, sSet, eIx, e2, eVar, eC, bindE, bindS, enc, dIx, atP, ixP, asg, lf, sIf, eEq, dEq, dEqB, sRet, cnt, eLen, e1, dLen, eInt, dInt, w11]
  | .one, n + 1, _, _, _ => by
    unfold m_law_count
    simp [runB, b_law_count, sSeq, sSet, eIx, e2, eVar, eC, bindE, bindS, enc, dIx, atP, ixP, asg, lf, sIf, eEq, dEq, dEqB, sRet, cnt, eLen, e1, dLen, eInt, dInt]
  | .name i, n + 1, _, _, ⟨h0, h3⟩ => by
    unfold m_law_count
    have e1' : atP [PyData.str "name", .int i] 1 = some (.int i) := rfl
    simp [runB, b_law_count, sSeq, sSet, eIx, e2, eVar, eC, bindE, bindS, enc, dIx, e1', at_sz h0 h3, encS, asg, lf, sIf, eEq, dEq, dEqB, sRet, cnt, sNext, eLen, e1, dLen]
  | .either a b, n + 1, hn, h8, ⟨oa, ob⟩ => by
    have pa := a.pos
    have pb := b.pos
    simp only [Kd.leaves] at hn h8
    have ea := lcount_ok hz a n (by omega) (by omega) oa
    have eb := lcount_ok hz b n (by omega) (by omega) ob
    unfold m_law_count
    have e0 : atP [PyData.str "either", enc a, enc b] 0 = some (.str "either") := rfl
    have e1' : atP [PyData.str "either", enc a, enc b] 1 = some (enc a) := rfl
    have e2' : atP [PyData.str "either", enc a, enc b] 2 = some (enc b) := rfl
    simp [runB, b_law_count, sSeq, sSet, eIx, e2, eVar, eC, bindE, bindS, enc, dIx, e0, e1', e2', asg, lf, sIf, eEq, dEq, dEqB, sRet, cnt, sNext, eCall, eArgs, bindI, ea, eb, ofRC, eAdd, dAdd, eLen, e1, dLen]
  | .both a b, n + 1, hn, h8, ⟨oa, ob⟩ => by
    have pa := a.pos
    have pb := b.pos
    simp only [Kd.leaves] at hn h8
    have ea := lcount_ok hz a n (by omega) (by omega) oa
    have eb := lcount_ok hz b n (by omega) (by omega) ob
    have em := cnt_mul hz (a := a) (b := b) (by omega) (by omega)
    unfold m_law_count
    have e0 : atP [PyData.str "both", enc a, enc b] 0 = some (.str "both") := rfl
    have e1' : atP [PyData.str "both", enc a, enc b] 1 = some (enc a) := rfl
    have e2' : atP [PyData.str "both", enc a, enc b] 2 = some (enc b) := rfl
    simp [runB, b_law_count, sSeq, sSet, eIx, e2, eVar, eC, bindE, bindS, enc, dIx, e0, e1', e2', asg, lf, sIf, eEq, dEq, dEqB, sRet, cnt, w07, sNext, eCall, eArgs, bindI, ea, eb, ofRC, eMul, dMul, em, eLen, e1, dLen]
  | .none, 0, h, _, _ => by simp [Kd.leaves] at h
  | .one, 0, h, _, _ => by simp [Kd.leaves] at h
  | .name _, 0, h, _, _ => by simp [Kd.leaves] at h
  | .either a b, 0, h, _, _ => by have := a.pos; simp only [Kd.leaves] at h; omega
  | .both a b, 0, h, _, _ => by have := a.pos; simp only [Kd.leaves] at h; omega
end KT
set_option Elab.async false
set_option linter.all false
set_option maxRecDepth 100000
namespace KT
open PySem
def stirM (c fac : Int) : Int := ((c * fac + 7919) % 2147483647) * ((c * fac + 7919) % 2147483647) % 2147483647 * 40692 % 2147483399
def stirS (c f fac : Int) : Int := f * 1000000000 + stirM c fac / 7
def stirBody : FS := (sSeq (sSet 3 (eMod (eAdd (eMul (eVar 0) (eVar 2)) (eC (.int 7919))) (eC (.int 2147483647)))) (sSeq (sSet 3 (eMod (eMul (eMod (eMul (eVar 3) (eVar 3)) (eC (.int 2147483647))) (eC (.int 40692))) (eC (.int 2147483399)))) (sSet 1 (eAdd (eMul (eVar 1) (ePow (eC (.int 10)) (eC (.int 9)))) (eDiv (eVar 3) (eC (.int 7)))))))
theorem stir_turn (c f fac : Int) (x : Option Slot) (h : fac.natAbs < 2 ^ 64) : stirBody [some (.par (.int c)), some (.loc (.int f)), some (.loc (.int fac)), x] =
    some (.next [some (.par (.int c)), some (.loc (.int (stirS c f fac))), some (.loc (.int fac)), some (.loc (.int (stirM c fac)))]) := by
  have b1 := Int.emod_nonneg (c * fac + 7919) (b := 2147483647) (by decide)
  have b2 := Int.emod_lt_of_pos (c * fac + 7919) (b := 2147483647) (by decide)
  have h1 : CMulD c fac := mulR h
  have h2 : CMulD ((c * fac + 7919) % 2147483647) ((c * fac + 7919) % 2147483647) := mulR (by omega)
  have h3 : ∀ i : Int, CMulD i 40692 := fun i => mulR (by decide)
  have h4 : ∀ i : Int, CMulD i 1000000000 := fun i => mulR (by decide)
  simp [stirBody, sSeq, sSet, eMod, eAdd, eMul, eVar, eC, ePow, eDiv, e2, bindE, bindS, dAdd, dMod, dMul, dDiv, dPow, h1, h2, h3, h4, asg, lf, lim, stirS, stirM]

def stirV (c : Int) : Int := stirS c (stirS c (stirS c (stirS c 0 48271) 69621) 39373) 44488
theorem stir_ok (n : Nat) (c : Int) : m_law_stir (n + 1) [.int c] = some (.ok (.int (stirV c))) := by
  have e : b_law_stir = sSeq (sSet 1 (eC (.int 0))) (sSeq (sFor (iSeq (eLst [(eC (.int 48271)), (eC (.int 69621)), (eC (.int 39373)), (eC (.int 44488))])) (tgName 2) stirBody) (sRet (eVar 1))) := rfl
  unfold m_law_stir
  rw [e]
  simp [runB, sSeq, sSet, eC, bindS, asg, lf, lfs, sFor, iSeq, eLst, eArgs, bindI, forGo, tgName, stir_turn, sRet, eVar, stirV]
def cellV (ns : List Int) (k : Nat) : Int := stirV (ns.getD k 0)
theorem atP_nat {α : Type} {xs : List α} {k : Nat} {v : α} (h : xs[k]? = some v) : atP xs (k : Int) = some v := by
  have hk : k < xs.length := (List.getElem?_eq_some_iff.mp h).1
  unfold atP ixP
  rw [if_pos (by omega), if_pos (by omega)]
  simpa using h
theorem cell_ok (n : Nat) (ns : List Int) (k : Nat) : m_law_cell (n + 2) [.list (ns.map .int), .int (k : Int)] = some (.ok (.int (cellV ns k))) := by
  unfold m_law_cell
  by_cases h : k < ns.length
  · have hx : atP (ns.map PyData.int) (k : Int) = some (.int ns[k]) := atP_nat (by simp [h])
    have hc : (k : Int) < (ns.length : Int) := by omega
    simp [runB, b_law_cell, sSeq, sIf, eLt, e2, eVar, eLen, e1, dLen, dLt, bindE, bindS, hc, sRet, eCall, eArgs, bindI, eIx, dIx, hx, stir_ok, ofRC, lf, cellV, h]
  · have hc : ¬ (k : Int) < (ns.length : Int) := by omega
    have hg : ns[k]? = none := List.getElem?_eq_none (Nat.le_of_not_lt h)
    simp [runB, b_law_cell, sSeq, sIf, eLt, e2, eVar, eLen, e1, dLen, dLt, bindE, bindS, hc, sNext, sRet, eCall, eC, eArgs, bindI, stir_ok, ofRC, lf, cellV, hg]
def drawV (c k b : Int) : Int :=
  let s1 := (c % 2147483629 + 1 + k * 1000003) % 2147483647
  let s2 := s1 * s1 % 2147483647 * 48271 % 2147483629
  let s3 := s2 * s2 % 2147483629 * 40692 % 2147483399
  s3 / 97 % b
theorem drawV_nn {c k b : Int} (h : 0 < b) : 0 ≤ drawV c k b := Int.emod_nonneg _ (by omega)
theorem drawV_lt {c k b : Int} (h : 0 < b) : drawV c k b < b := Int.emod_lt_of_pos _ h
theorem draw_ok (n : Nat) (c k b : Int) (h : 0 < b) : m_law_draw (n + 1) [.int c, .int k, .int b] = some (.ok (.int (drawV c k b))) := by
  have a1 := Int.emod_nonneg (c % 2147483629 + 1 + k * 1000003) (b := 2147483647) (by decide)
  have a2 := Int.emod_lt_of_pos (c % 2147483629 + 1 + k * 1000003) (b := 2147483647) (by decide)
  generalize hs1 : (c % 2147483629 + 1 + k * 1000003) % 2147483647 = s1 at a1 a2
  have b1 := Int.emod_nonneg (s1 * s1 % 2147483647 * 48271) (b := 2147483629) (by decide)
  have b2 := Int.emod_lt_of_pos (s1 * s1 % 2147483647 * 48271) (b := 2147483629) (by decide)
  generalize hs2 : s1 * s1 % 2147483647 * 48271 % 2147483629 = s2 at b1 b2
  have m1 : CMulD k 1000003 := mulR (by decide)
  have m2 : CMulD s1 s1 := mulR (by omega)
  have m3 : ∀ i : Int, CMulD i 48271 := fun i => mulR (by decide)
  have m4 : CMulD s2 s2 := mulR (by omega)
  have m5 : ∀ i : Int, CMulD i 40692 := fun i => mulR (by decide)
  unfold m_law_draw
  simp [runB, b_law_draw, sSeq, sSet, eMod, eAdd, eMul, eVar, eC, eDiv, e2, bindE, bindS, dAdd, dMod, dMul, dDiv, m1, hs1, m2, m3, hs2, m4, m5, asg, lf, lim, sRet, h, drawV]
end KT
set_option Elab.async false
set_option linter.all false
set_option maxRecDepth 100000
namespace KT
open PySem
/-! ### reading the body of a def -/
theorem kind_leaf (n : Nat) (c leaves k : Int) (h : leaves < 2) : ∃ kd : Kd, m_law_kind (n + 2) [.int c, .int leaves, .int k] = some (.ok (enc kd)) ∧ kd.Ok ∧ kd.leaves = 1 := by
  have d0 := drawV_nn (c := c) (k := 5 * k) (b := 12) (by decide)
  have d1 := drawV_lt (c := c) (k := 5 * k) (b := 12) (by decide)
  have e := draw_ok n c (5 * k) 12 (by decide)
  have m5 : CMulD 5 k := mulL (by decide)
  generalize drawV c (5 * k) 12 = w at d0 d1 e
  by_cases w0 : w = 0
  · exact ⟨.none, by unfold m_law_kind; simp [runB, b_law_kind, sSeq, sIf, eLt, e2, eVar, eC, bindE, bindS, dLt, h, sSet, eCall, eArgs, bindI, eMul, dMul, m5, e, ofRC, asg, lf, lfs, eEq, dEq, dEqB, w0, sRet, eTup, enc], trivial, rfl⟩
  · have w0' : (w == 0) = false := by simp [w0]
    by_cases w3 : w < 3
    · exact ⟨.one, by unfold m_law_kind; simp [runB, b_law_kind, sSeq, sIf, eLt, e2, eVar, eC, bindE, bindS, dLt, h, sSet, eCall, eArgs, bindI, eMul, dMul, m5, e, ofRC, asg, lf, lfs, eEq, dEq, dEqB, w0', w3, sNext, sRet, eTup, enc], trivial, rfl⟩
    · refine ⟨.name (w % 4), by unfold m_law_kind; simp [runB, b_law_kind, sSeq, sIf, eLt, e2, eVar, eC, bindE, bindS, dLt, h, sSet, eCall, eArgs, bindI, eMul, dMul, m5, e, ofRC, asg, lf, lfs, eEq, dEq, dEqB, w0', w3, sNext, sRet, eTup, eMod, dMod, enc], ?_, rfl⟩
      show 0 ≤ w % 4 ∧ w % 4 ≤ 3
      omega
theorem kind_ok : ∀ (L n : Nat) (c leaves k : Int), leaves ≤ L → L + 1 ≤ n → ∃ kd : Kd, m_law_kind (n + 1) [.int c, .int leaves, .int k] = some (.ok (enc kd)) ∧ kd.Ok ∧ (kd.leaves : Int) ≤ max leaves 1
  | 0, n + 1, c, leaves, k, h, _ => by
    obtain ⟨kd, e, o, l⟩ := kind_leaf n c leaves k (by omega)
    exact ⟨kd, e, o, by omega⟩
  | L + 1, n + 1, c, leaves, k, h, hn => by
    by_cases h2 : leaves < 2
    · obtain ⟨kd, e, o, l⟩ := kind_leaf n c leaves k h2
      exact ⟨kd, e, o, by omega⟩
    · have m5 : CMulD 5 k := mulL (by decide)
      have m2 : CMulD 2 k := mulL (by decide)
      have e1 := draw_ok n c (5 * k + 1) (leaves - 1) (by omega)
      have d0 := drawV_nn (c := c) (k := 5 * k + 1) (b := leaves - 1) (by omega)
      have d1 := drawV_lt (c := c) (k := 5 * k + 1) (b := leaves - 1) (by omega)
      have e2' := draw_ok n c (5 * k + 2) 2 (by decide)
      have d2 := drawV_nn (c := c) (k := 5 * k + 2) (b := 2) (by decide)
      have d3 := drawV_lt (c := c) (k := 5 * k + 2) (b := 2) (by decide)
      generalize drawV c (5 * k + 1) (leaves - 1) = u at d0 d1 e1
      generalize drawV c (5 * k + 2) 2 = w at d2 d3 e2'
      obtain ⟨ka, ea, oa, la⟩ := kind_ok L n c (1 + u) (2 * k) (by omega) (by omega)
      obtain ⟨kb, eb, ob, lb⟩ := kind_ok L n c (leaves - (1 + u)) (2 * k + 1) (by omega) (by omega)
      have hw : w = 0 ∨ w = 1 := by omega
      rcases hw with rfl | rfl
      · refine ⟨.either ka kb, ?_, ⟨oa, ob⟩, by simp only [Kd.leaves]; push_cast; omega⟩
        unfold m_law_kind
        simp [runB, b_law_kind, sSeq, sIf, eLt, e2, eVar, eC, bindE, bindS, dLt, h2, sSet, eCall, eArgs, bindI, eMul, dMul, m5, m2, e1, e2', ea, eb, ofRC, asg, lf, lfs, sNext, eAdd, dAdd, eSub, dSub, eIx, eLst, dIx, atP, ixP, sRet, eTup, enc, enc_lf]
      · refine ⟨.both ka kb, ?_, ⟨oa, ob⟩, by simp only [Kd.leaves]; push_cast; omega⟩
        unfold m_law_kind
        simp [runB, b_law_kind, sSeq, sIf, eLt, e2, eVar, eC, bindE, bindS, dLt, h2, sSet, eCall, eArgs, bindI, eMul, dMul, m5, m2, e1, e2', ea, eb, ofRC, asg, lf, lfs, sNext, eAdd, dAdd, eSub, dSub, eIx, eLst, dIx, atP, ixP, sRet, eTup, enc, enc_lf]
end KT
set_option Elab.async false
set_option linter.all false
set_option maxRecDepth 100000
namespace KT
open PySem
theorem ints4 : numsTo 4 = [.int 0, .int 1, .int 2, .int 3] := rfl
theorem sizes_ok (n : Nat) (c top : Int) (h : 0 ≤ top) : ∃ z : Sz, m_law_sizes (n + 2) [.int c, .int top] = some (.ok (encS z)) ∧ z.In 0 top := by
  have hp : 0 < top + 1 := by omega
  refine ⟨⟨drawV c 900 (top + 1), drawV c 901 (top + 1), drawV c 902 (top + 1), drawV c 903 (top + 1)⟩, ?_, ?_⟩
  · unfold m_law_sizes
    simp [runB, b_law_sizes, sRet, eTuple, e1, eComp, iR1, eC, big, ints4, compGo, demote, eCall, eArgs, eVar, bindI, bindE, bindS, eAdd, e2, dAdd, draw_ok _ _ _ _ hp, ofRC, lf, lfs, dTuple, encS]
  · have a := fun k => drawV_nn (c := c) (k := k) hp
    have b := fun k => drawV_lt (c := c) (k := k) hp
    have a0 := a 900; have a1 := a 901; have a2 := a 902; have a3 := a 903
    have b0 := b 900; have b1 := b 901; have b2 := b 902; have b3 := b 903
    exact ⟨⟨a0, Int.le_of_lt_add_one b0⟩, ⟨a1, Int.le_of_lt_add_one b1⟩, ⟨a2, Int.le_of_lt_add_one b2⟩, ⟨a3, Int.le_of_lt_add_one b3⟩⟩
end KT
set_option Elab.async false
set_option linter.all false
set_option maxRecDepth 100000
namespace KT
open PySem
theorem goes_len {k : Kd} {t : Str × List Int} (h : GoesIn k t) (hk : k.leaves ≤ 8) : t.2.length ≤ 8 ∧ ∃ k', turnK k t.1 t.2 = some k' := by
  obtain ⟨k', hk'⟩ := Option.isSome_iff_exists.mp h
  have hk'' := hk'
  unfold turnK at hk'
  cases e : partK k t.2 with
  | none => rw [e] at hk'; cases hk'
  | some x =>
    have := partK_len t.2 k x e
    exact ⟨by omega, k', hk''⟩
theorem ne_th {t : Th} (h : (encTh t).depth ≤ 60) : dNe (encTh t) (encTh t) = some (.bool false) := by
  have hq : PyData.eqv (encTh t) (encTh t) = true := (KN.kD_eqv _ _ (th_kD t) (th_kD t)).mpr rfl
  have hl := KN.kD_lay _ (th_kD t)
  have ho : eqOk (encTh t) (encTh t) = true := by simp [eqOk, hl, h]
  have he : dEqB (encTh t) (encTh t) = some true := by
    cases t with
    | num i => simp [encTh, dEqB]
    | unit => simp only [encTh] at *; simp [dEqB, ho, hq]
    | left t => simp only [encTh] at *; simp [dEqB, ho, hq]
    | right t => simp only [encTh] at *; simp [dEqB, ho, hq]
    | pair a b => simp only [encTh] at *; simp [dEqB, ho, hq]
  simp [dNe, he]
def body1 (n : Nat) : FS := (sSeq (sSet 9 (eCall (m_forth n) [(eVar 1), (eVar 4), (eVar 8)])) (sSeq (sIf (eOr (eHas false (eVar 9) 7) (eNe (eCall (m_back n) [(eVar 1), (eVar 4), (eVar 9)]) (eVar 8))) (sRet (eC (.bool false))) sNext) (sDput 7 (eVar 9))))
def body2 (n : Nat) : FS := (sSeq (sSet 10 (eCall (m_back n) [(eVar 1), (eVar 4), (eVar 8)])) (sIf (eOr (eHas true (eVar 8) 7) (eNe (eCall (m_forth n) [(eVar 1), (eVar 4), (eVar 10)]) (eVar 8))) (sRet (eC (.bool false))) sNext))
section
variable {z : Sz} {k k' : Kd} {w : Str} {p : List Int}
theorem loop1 (n : Nat) (T : Turns z k k' w p) (hk : turnK k w p = some k') (hl : k'.leaves ≤ 8) (hkl : k.leaves ≤ 8) (hp : p.length ≤ 900) (x0 x2 x3 x5 x6 x10 : Option Slot) : ∀ (ts ds : List Th) (x8 x9 : Option Slot), (∀ t ∈ ts, fits z k t) → (∀ t ∈ ds, fits z k t) → (ds ++ ts).Nodup → (ds ++ ts).length < big →
    ∃ y8 y9, forGo (tgName 8) (body1 (n + 4)) (ts.map encTh) [x0, some (.loc (enc k)), x2, x3, some (.loc (encT w p)), x5, x6, some (.dct ((ds.map (fwdT k w p)).map encTh)), x8, x9, x10] =
      some (.next [x0, some (.loc (enc k)), x2, x3, some (.loc (encT w p)), x5, x6, some (.dct (((ds ++ ts).map (fwdT k w p)).map encTh)), y8, y9, x10])
  | [], ds, x8, x9, _, _, _, _ => ⟨x8, x9, by simp [forGo]⟩
  | t :: ts, ds, x8, x9, hts, hds, nd, hb => by
    have ht := hts t (List.mem_cons_self ..)
    have e1 := forth_ok n k w p t hp ht
    have e2' := back_ok n k k' w p t hp ht hk
    rw [hk] at e1
    simp only [Option.isSome_some, if_true] at e1
    have hu := T.fw t ht
    have kq : keyOk ((ds.map (fwdT k w p)).map encTh) (encTh (fwdT k w p t)) = true := key_ok hl hu fun q hq => by
      obtain ⟨q', hq', rfl⟩ := List.mem_map.mp hq
      exact T.fw _ (hds _ hq')
    have hn : hasK ((ds.map (fwdT k w p)).map encTh) (encTh (fwdT k w p t)) = false := by
      cases q : hasK ((ds.map (fwdT k w p)).map encTh) (encTh (fwdT k w p t)) with
      | false => rfl
      | true =>
        obtain ⟨q', hq', e⟩ := List.mem_map.mp ((has_iff _ _).mp q)
        have := T.inj _ _ (hds _ hq') ht e
        subst this
        rw [List.nodup_append] at nd
        exact absurd rfl (nd.2.2 _ hq' _ (List.mem_cons_self ..))
    have hlen : ((ds.map (fwdT k w p)).map encTh).length < big := by simp at hb ⊢; omega
    have hne : dNe (encTh t) (encTh t) = some (.bool false) := ne_th (by have := fits_depth z k t ht; omega)
    have lfu := th_lf (fwdT k w p t)
    have sm : body1 (n + 4) [x0, some (.loc (enc k)), x2, x3, some (.loc (encT w p)), x5, x6, some (.dct ((ds.map (fwdT k w p)).map encTh)), some (.loc (encTh t)), x9, x10] =
        some (.next [x0, some (.loc (enc k)), x2, x3, some (.loc (encT w p)), x5, x6, some (.dct (((ds ++ [t]).map (fwdT k w p)).map encTh)), some (.loc (encTh t)), some (.loc (encTh (fwdT k w p t))), x10]) := by
      have ea : ((ds ++ [t]).map (fwdT k w p)).map encTh = (ds.map (fwdT k w p)).map encTh ++ [encTh (fwdT k w p t)] := by simp
      rw [ea]
      generalize (ds.map (fwdT k w p)).map encTh = KS at kq hn hlen
      generalize encTh (fwdT k w p t) = U at e1 e2' kq hn lfu
      simp [body1, sSeq, sSet, eCall, eArgs, eVar, bindI, bindS, bindE, e1, e2', ofRC, asg_lf lfu, sIf, eOr, eHas, kq, hn, eNe, e2, hne, sNext, sDput, hlen]
    obtain ⟨y8, y9, ih⟩ := loop1 n T hk hl hkl hp x0 x2 x3 x5 x6 x10 ts (ds ++ [t]) (some (.loc (encTh t))) (some (.loc (encTh (fwdT k w p t)))) (fun q hq => hts q (List.mem_cons_of_mem _ hq)) (fun q hq => by
      rcases List.mem_append.mp hq with m | m
      · exact hds q m
      · have : q = t := by simpa using m
        subst this; exact ht) (by simpa using nd) (by simpa using hb)
    refine ⟨y8, y9, ?_⟩
    rw [List.map_cons]
    refine (for_next (tg := tgName 8) (d := encTh t) rfl sm).trans ?_
    rw [ih]
    simp
theorem loop2 (n : Nat) (T : Turns z k k' w p) (hk : turnK k w p = some k') (hl : k'.leaves ≤ 8) (hkl : k.leaves ≤ 8) (hp : p.length ≤ 900) (x0 x2 x3 x5 x6 x9 : Option Slot) : ∀ (us : List Th) (x8 x10 : Option Slot), (∀ u ∈ us, fits z k' u) →
    ∃ y8 y10, forGo (tgName 8) (body2 (n + 4)) (us.map encTh) [x0, some (.loc (enc k)), x2, x3, some (.loc (encT w p)), x5, x6, some (.dct (((thL z k).map (fwdT k w p)).map encTh)), x8, x9, x10] =
      some (.next [x0, some (.loc (enc k)), x2, x3, some (.loc (encT w p)), x5, x6, some (.dct (((thL z k).map (fwdT k w p)).map encTh)), y8, x9, y10])
  | [], x8, x10, _ => ⟨x8, x10, by simp [forGo]⟩
  | u :: us, x8, x10, hus => by
    have hu := hus u (List.mem_cons_self ..)
    obtain ⟨t, ht, et⟩ := T.bw u hu
    have e1 := forth_ok n k w p t hp ht
    have e2' := back_ok n k k' w p t hp ht hk
    rw [hk] at e1
    simp only [Option.isSome_some, if_true] at e1
    rw [et] at e1 e2'
    have kq : keyOk (((thL z k).map (fwdT k w p)).map encTh) (encTh u) = true := key_ok hl hu fun q hq => by
      obtain ⟨q', hq', rfl⟩ := List.mem_map.mp hq
      exact T.fw _ ((thL_iff z k q').mp hq')
    have hn : hasK (((thL z k).map (fwdT k w p)).map encTh) (encTh u) = true := (has_iff _ _).mpr (List.mem_map.mpr ⟨t, (thL_iff z k t).mpr ht, et⟩)
    have hne : dNe (encTh u) (encTh u) = some (.bool false) := ne_th (by have := fits_depth z k' u hu; omega)
    have lft := th_lf t
    obtain ⟨y8, y10, ih⟩ := loop2 n T hk hl hkl hp x0 x2 x3 x5 x6 x9 us (some (.loc (encTh u))) (some (.loc (encTh t))) fun q hq => hus q (List.mem_cons_of_mem _ hq)
    refine ⟨y8, y10, ?_⟩
    rw [List.map_cons, ← ih]
    refine for_next (tg := tgName 8) (d := encTh u) rfl ?_
    generalize ((thL z k).map (fwdT k w p)).map encTh = KS at kq hn
    simp [body2, sSeq, sSet, eCall, eArgs, eVar, bindI, bindS, bindE, e1, e2', ofRC, asg_lf lft, sIf, eOr, eHas, kq, hn, eNe, e2, hne, sNext]
end
def turnBody (n : Nat) : FS := (sSeq (sSet 5 (eCall (m_turned n) [(eVar 1), (eVar 4)])) (sSeq (sSet 6 (eCall (m_law_things n) [(eVar 5), (eVar 2)])) (sSeq (sIf (eOr (eNe (eCall (m_count n) [(eVar 5), (eVar 2)]) (eLen (eVar 3))) (eNe (eLen (eVar 6)) (eLen (eVar 3)))) (sRet (eC (.bool false))) sNext) (sSeq (sDnew 7) (sSeq (sForV 3 (tgName 8) (body1 n)) (sForV 6 (tgName 8) (body2 n)))))))
theorem turn_body {z : Sz} (hz : z.In 0 3) (hz6 : z.In 0 1000000) (n : Nat) (k : Kd) (hkl : k.leaves ≤ 5) (ok : k.Ok) (t : Str × List Int) (ht : GoesIn k t) (x0 x3 x5 x6 x7 x8 x9 x10 : Option Slot) (h3 : x3 = some (.own (thg z k)) ∨ x3 = some (.loc (.list (thg z k)))) :
    ∃ y5 y6 y7 y8 y9 y10, turnBody (n + 30) [x0, some (.loc (enc k)), some (.loc (encS z)), x3, some (.loc (encT t.1 t.2)), x5, x6, x7, x8, x9, x10] =
      some (.next [x0, some (.loc (enc k)), some (.loc (encS z)), some (.loc (.list (thg z k))), some (.loc (encT t.1 t.2)), y5, y6, y7, y8, y9, y10]) := by
  obtain ⟨w, p⟩ := t
  obtain ⟨hpl, k', hk'⟩ := goes_len ht (by omega)
  simp only at hpl hk' ⊢
  have T : Turns z k k' w p := turns_of hk'
  have lv := T.lv
  have et := turned_ok (n + 27) k w p (by omega)
  rw [hk'] at et
  simp only at et
  have eg := things_ok hz hz6 k' (n + 30) (by omega) (by omega) (T.ok ok)
  have ec := count_ok hz6 k' (n + 30) (by omega) (by omega) (T.ok ok)
  rw [T.cn] at ec
  have l1 := thg_len hz6 k
  have l2 := thg_len hz6 k'
  rw [T.cn] at l2
  have hb := thg_small8 hz hz6 (k := k) (by omega)
  have f1 := thg_lf z k
  have f2 := thg_lf z k'
  have d1 : dLen (.list (thg z k)) = some (.int (cnt z k)) := by simp [dLen, l1]
  have d2 : dLen (.list (thg z k')) = some (.int (cnt z k)) := by simp [dLen, l2]
  have hbig : ([] ++ thL z k).length < big := by
    rw [thg_thL, List.length_map] at hb
    exact Nat.lt_of_le_of_lt hb (by decide)
  obtain ⟨y8, y9, L1⟩ := loop1 (n + 26) T hk' (by omega) (by omega) (by omega) x0 (some (.loc (encS z))) (some (.loc (.list (thg z k)))) (some (.loc (enc k'))) (some (.own (thg z k'))) x10 (thL z k) [] x8 x9 (fun t ht => (thL_iff z k t).mp ht) (by simp) (by simpa using thL_nodup z k) hbig
  obtain ⟨z8, z10, L2⟩ := loop2 (n + 26) T hk' (by omega) (by omega) (by omega) x0 (some (.loc (encS z))) (some (.loc (.list (thg z k)))) (some (.loc (enc k'))) (some (.loc (.list (thg z k')))) y9 (thL z k') y8 x10 (fun t ht => (thL_iff z k' t).mp ht)
  rw [← thg_thL] at L1 L2
  rw [List.nil_append] at L1
  refine ⟨some (.loc (enc k')), some (.loc (.list (thg z k'))), some (.dct (((thL z k).map (fwdT k w p)).map encTh)), z8, y9, z10, ?_⟩
  have lk := enc_lf k'
  generalize enc k' = K' at et eg ec L1 L2 lk
  unfold turnBody
  have s5 : ∀ x3', sSet 5 (eCall (m_turned (n + 30)) [(eVar 1), (eVar 4)]) [x0, some (.loc (enc k)), some (.loc (encS z)), x3', some (.loc (encT w p)), x5, x6, x7, x8, x9, x10] = some (.next [x0, some (.loc (enc k)), some (.loc (encS z)), x3', some (.loc (encT w p)), some (.loc K'), x6, x7, x8, x9, x10]) := fun x3' => by
    simp [sSet, eCall, eArgs, eVar, bindI, bindS, et, ofRC, asg_lf lk]
  have s6 : ∀ x3', sSet 6 (eCall (m_law_things (n + 30)) [(eVar 5), (eVar 2)]) [x0, some (.loc (enc k)), some (.loc (encS z)), x3', some (.loc (encT w p)), some (.loc K'), x6, x7, x8, x9, x10] = some (.next [x0, some (.loc (enc k)), some (.loc (encS z)), x3', some (.loc (encT w p)), some (.loc K'), some (.own (thg z k')), x7, x8, x9, x10]) := fun x3' => by
    generalize thg z k' = G at eg f2
    simp [sSet, eCall, eArgs, eVar, bindI, bindS, eg, ofRC, asg_own f2]
  generalize hG : thg z k = G1 at *
  generalize hG2 : thg z k' = G2 at *
  have LL : ∀ x3', (x3' = some (.own G1) ∨ x3' = some (.loc (.list G1))) → sSeq (sForV 3 (tgName 8) (body1 (n + 30))) (sForV 6 (tgName 8) (body2 (n + 30))) [x0, some (.loc (enc k)), some (.loc (encS z)), x3', some (.loc (encT w p)), some (.loc K'), some (.own G2), some (.dct []), x8, x9, x10] = some (.next [x0, some (.loc (enc k)), some (.loc (encS z)), some (.loc (.list G1)), some (.loc (encT w p)), some (.loc K'), some (.loc (.list G2)), some (.dct (((thL z k).map (fwdT k w p)).map encTh)), z8, y9, z10]) := fun x3' hx => by
    refine (seq_next (ρ' := [x0, some (.loc (enc k)), some (.loc (encS z)), some (.loc (.list G1)), some (.loc (encT w p)), some (.loc K'), some (.own G2), some (.dct (((thL z k).map (fwdT k w p)).map encTh)), y8, y9, x10]) ?_).trans ?_
    · rcases hx with rfl | rfl
      · exact L1
      · simp only [sForV, List.getElem?_cons_succ, List.getElem?_cons_zero, f1, if_true]
        exact L1
    · exact L2
  rcases h3 with rfl | rfl
  · refine (seq_next (s5 _)).trans ((seq_next (s6 _)).trans ((seq_next (ρ' := [x0, some (.loc (enc k)), some (.loc (encS z)), some (.own G1), some (.loc (encT w p)), some (.loc K'), some (.own G2), x7, x8, x9, x10]) ?_).trans ((seq_next (ρ' := [x0, some (.loc (enc k)), some (.loc (encS z)), some (.own G1), some (.loc (encT w p)), some (.loc K'), some (.own G2), some (.dct []), x8, x9, x10]) rfl).trans (LL _ (.inl rfl)))))
    simp [sIf, eOr, eNe, e2, eCall, eArgs, eVar, bindI, bindE, bindS, ec, ofRC, eLen, e1, d1, d2, neII, sNext]
  · refine (seq_next (s5 _)).trans ((seq_next (s6 _)).trans ((seq_next (ρ' := [x0, some (.loc (enc k)), some (.loc (encS z)), some (.loc (.list G1)), some (.loc (encT w p)), some (.loc K'), some (.own G2), x7, x8, x9, x10]) ?_).trans ((seq_next (ρ' := [x0, some (.loc (enc k)), some (.loc (encS z)), some (.loc (.list G1)), some (.loc (encT w p)), some (.loc K'), some (.own G2), some (.dct []), x8, x9, x10]) rfl).trans (LL _ (.inr rfl)))))
    simp [sIf, eOr, eNe, e2, eCall, eArgs, eVar, bindI, bindE, bindS, ec, ofRC, eLen, e1, d1, d2, neII, sNext]
theorem walk7 {z : Sz} (hz : z.In 0 3) (hz6 : z.In 0 1000000) (n : Nat) (k : Kd) (hkl : k.leaves ≤ 5) (ok : k.Ok) (x0 : Option Slot) : ∀ (ts : List (Str × List Int)) (x3 x4 x5 x6 x7 x8 x9 x10 : Option Slot), (∀ t ∈ ts, GoesIn k t) → (x3 = some (.own (thg z k)) ∨ x3 = some (.loc (.list (thg z k)))) →
    ∃ y3 y4 y5 y6 y7 y8 y9 y10, forGo (tgName 4) (turnBody (n + 30)) (encTs ts) [x0, some (.loc (enc k)), some (.loc (encS z)), x3, x4, x5, x6, x7, x8, x9, x10] = some (.next [x0, some (.loc (enc k)), some (.loc (encS z)), y3, y4, y5, y6, y7, y8, y9, y10])
  | [], x3, x4, x5, x6, x7, x8, x9, x10, _, _ => ⟨x3, x4, x5, x6, x7, x8, x9, x10, rfl⟩
  | t :: ts, x3, x4, x5, x6, x7, x8, x9, x10, hT, h3 => by
    obtain ⟨y5, y6, y7, y8, y9, y10, e⟩ := turn_body hz hz6 n k hkl ok t (hT t (List.mem_cons_self ..)) x0 x3 x5 x6 x7 x8 x9 x10 h3
    obtain ⟨w3, w4, w5, w6, w7, w8, w9, w10, ih⟩ := walk7 hz hz6 n k hkl ok x0 ts _ (some (.loc (encT t.1 t.2))) y5 y6 y7 y8 y9 y10 (fun q hq => hT q (List.mem_cons_of_mem _ hq)) (.inr rfl)
    refine ⟨w3, w4, w5, w6, w7, w8, w9, w10, ?_⟩
    show forGo (tgName 4) (turnBody (n + 30)) (encT t.1 t.2 :: encTs ts) _ = _
    rw [← ih]
    exact for_next (tg := tgName 4) (d := encT t.1 t.2) rfl e
def lawRest (n : Nat) : FS := (sSeq (sSet 3 (eCall (m_law_things n) [(eVar 1), (eVar 2)])) (sSeq (sFor (iSeq (eSl (eCall (m_law_all_turnings n) [(eVar 1)]) oNone (oSome (eC (.int 6))))) (tgName 4) (turnBody n)) (sRet (eC (.bool true)))))
theorem rest_ok {z : Sz} (hz : z.In 0 3) (hz6 : z.In 0 1000000) (k : Kd) (hkl : k.leaves ≤ 5) (ok : k.Ok) (x0 : Option Slot) : lawRest 30 [x0, some (.loc (enc k)), some (.loc (encS z)), none, none, none, none, none, none, none, none] = some (.ret (.bool true)) := by
  obtain ⟨ts, et, hT, _⟩ := all_ok 27 k (by omega)
  simp only [Nat.reduceAdd] at et
  have eg := things_ok hz hz6 k 30 (by omega) (by omega) ok
  have f1 := thg_lf z k
  have hc : cutP (encTs ts) none (some 6) = encTs (ts.take (sxP (encTs ts).length (encTs ts).length (some 6))) := by
    simp [cutP, sxP, encTs, List.map_take]
  obtain ⟨y3, y4, y5, y6, y7, y8, y9, y10, ew⟩ := walk7 hz hz6 0 k hkl ok x0 (ts.take (sxP (encTs ts).length (encTs ts).length (some 6))) (some (.own (thg z k))) none none none none none none none (fun t ht => hT t (List.mem_of_mem_take ht)) (.inl rfl)
  rw [← hc] at ew
  have l1 := lfs_encTs ts
  have l2 := lfs_encTs (ts.take (sxP (encTs ts).length (encTs ts).length (some 6)))
  rw [← hc] at l2
  simp only [Nat.zero_add] at ew
  generalize encTs ts = M at et ew l1 l2
  generalize thg z k = G at eg f1 ew
  generalize hC : cutP M none (some 6) = CM at ew l2
  simp [lawRest, sSeq, sSet, eCall, eArgs, eVar, bindI, bindS, bindE, eg, ofRC, asg_own f1, sFor, iSeq, eSl, et, oNone, oSome, eC, dSl, l1, hC, l2]
  rw [ew]
  simp [sRet, bindS, eC, lf]
theorem asgS (l : Nat) (z : Sz) : asg l (encS z) = some (.loc (encS z)) := rfl
theorem law_true (ns : List Int) (_ : ns.length ≤ 63) : m_law 31 [.list (ns.map .int)] = some (.ok (.bool true)) := by
  have e : m_law 31 = runB 11 (sSeq (sSet 1 (eCall (m_law_kind 30) [(eCall (m_law_cell 30) [(eVar 0), (eC (.int 0))]), (eAdd (eC (.int 1)) (eMod (eCall (m_law_cell 30) [(eVar 0), (eC (.int 1))]) (eC (.int 5)))), (eC (.int 1))])) (sSeq (sSet 2 (eCall (m_law_sizes 30) [(eCall (m_law_cell 30) [(eVar 0), (eC (.int 2))]), (eC (.int 3))])) (sSeq (sIf (eGt (eCall (m_law_count 30) [(eVar 1), (eVar 2)]) (eC (.int 60))) (sSet 2 (eCall (m_law_sizes 30) [(eCall (m_law_cell 30) [(eVar 0), (eC (.int 2))]), (eC (.int 1))])) sNext) (lawRest 30)))) := rfl
  rw [e]
  have c0 := cell_ok 28 ns 0
  have c1 := cell_ok 28 ns 1
  have c2 := cell_ok 28 ns 2
  simp only [Nat.reduceAdd, Int.cast_ofNat_Int] at c0 c1 c2
  generalize cellV ns 0 = v0 at c0
  generalize cellV ns 1 = v1 at c1
  generalize cellV ns 2 = v2 at c2
  have m5 : 0 ≤ v1 % 5 ∧ v1 % 5 < 5 := by omega
  obtain ⟨k, ek, ok, lk⟩ := kind_ok 5 29 v0 (1 + v1 % 5) 1 (by omega) (by omega)
  have hl5 : k.leaves ≤ 5 := by omega
  obtain ⟨z, ez, hz⟩ := sizes_ok 28 v2 3 (by decide)
  obtain ⟨z1, ez1, hz1⟩ := sizes_ok 28 v2 1 (by decide)
  simp only [Nat.reduceAdd] at ek ez ez1
  have hz6 : z.In 0 1000000 := by
    obtain ⟨h0, h1, h2, h3⟩ := hz
    simp only [Sz.In]
    omega
  have hz13 : z1.In 0 3 := by
    obtain ⟨h0, h1, h2, h3⟩ := hz1
    simp only [Sz.In]
    omega
  have hz16 : z1.In 0 1000000 := by
    obtain ⟨h0, h1, h2, h3⟩ := hz1
    simp only [Sz.In]
    omega
  have ec := lcount_ok hz6 k 30 (by omega) (by omega) ok
  have r0 := rest_ok hz hz6 k hl5 ok (some (.par (.list (ns.map .int))))
  have r1 := rest_ok hz13 hz16 k hl5 ok (some (.par (.list (ns.map .int))))
  generalize lawRest 30 = LR at r0 r1
  by_cases h : 60 < cnt z k
  · simp [runB, sSeq, sSet, eCall, eArgs, eVar, eC, bindI, bindE, bindS, c0, c1, c2, ofRC, eAdd, e2, addII, eMod, dMod, ek, asg_lf, enc_lf, ez, ez1, asgS, ec, sIf, eGt, dGt, h, r1]
  · simp [runB, sSeq, sSet, eCall, eArgs, eVar, eC, bindI, bindE, bindS, c0, c1, c2, ofRC, eAdd, e2, addII, eMod, dMod, ek, asg_lf, enc_lf, ez, asgS, ec, sIf, eGt, dGt, h, sNext, r0]
end KT
set_option Elab.async false
set_option linter.all false
set_option maxRecDepth 100000
namespace KT
open PySem PySem.Spec PyProof.Rows L2
structure TxtF (K : PySem.W.Frag) (mg : Str → Option Value) : Prop where
  t_crossed : FunT K mg "crossed" st_crossed ["thing"]
  t_grouped_pair : FunT K mg "grouped_pair" st_grouped_pair ["thing"]
  t_grouped_side : FunT K mg "grouped_side" st_grouped_side ["thing"]
  t_swapped : FunT K mg "swapped" st_swapped ["is_both", "thing"]
  t_forth_here : FunT K mg "forth_here" st_forth_here ["word", "found", "thing"]
  t_ungrouped_pair : FunT K mg "ungrouped_pair" st_ungrouped_pair ["thing"]
  t_ungrouped_side : FunT K mg "ungrouped_side" st_ungrouped_side ["thing"]
  t_back_here : FunT K mg "back_here" st_back_here ["word", "found", "thing"]
  t_things_along : FunT K mg "things_along" st_things_along ["parts", "path", "thing"]
  t_thing_by : FunT K mg "thing_by" st_thing_by ["parts", "turning", "thing", "change"]
  t_goes : FunT K mg "goes" st_goes ["word", "found"]
  t_parts_along : FunT K mg "parts_along" st_parts_along ["kind", "path"]
  t_parts_to_turn : FunT K mg "parts_to_turn" st_parts_to_turn ["kind", "turning"]
  t_forth : FunT K mg "forth" st_forth ["kind", "turning", "thing"]
  t_back : FunT K mg "back" st_back ["kind", "turning", "thing"]
  t_count : FunT K mg "count" st_count ["kind", "sizes"]
  t_law_things : FunT K mg "_law_things" st_law_things ["kind", "sizes"]
  t_kind_here : FunT K mg "kind_here" st_kind_here ["word", "found"]
  t_kind_by : FunT K mg "kind_by" st_kind_by ["parts", "turning"]
  t_turned : FunT K mg "turned" st_turned ["kind", "turning"]
  t_law_here : FunT K mg "_law_here" st_law_here ["kind", "word"]
  t_law_part : FunT K mg "_law_part" st_law_part ["kind", "path"]
  t_law_paths : FunT K mg "_law_paths" st_law_paths ["kind"]
  t_law_all_turnings : FunT K mg "_law_all_turnings" st_law_all_turnings ["kind"]
  t_law_count : FunT K mg "_law_count" st_law_count ["kind", "sizes"]
  t_law_draw : FunT K mg "_law_draw" st_law_draw ["cell", "k", "bound"]
  t_law_sizes : FunT K mg "_law_sizes" st_law_sizes ["cell", "top"]
  t_law_stir : FunT K mg "_law_stir" st_law_stir ["cell"]
  t_law_cell : FunT K mg "_law_cell" st_law_cell ["script", "k"]
  t_law_kind : FunT K mg "_law_kind" st_law_kind ["cell", "leaves", "k"]
  t_law : FunT K mg "law" st_law ["script"]
structure ClsF (K : PySem.W.Frag) (mg : Str → Option Value) (cv : Nat → Value) : Prop where
  nought : True
  R_NoTurning : ExcF K mg cv "NoTurning" 2
  V_forth_here : mg "forth_here" = some (.ref A_forth_here)
  V_back_here : mg "back_here" = some (.ref A_back_here)
  KT_SIDES : KTup K mg "SIDES" (.tuple [.str "left", .str "right"])
structure AllF (P : Program) (w : World) (K : PySem.W.Frag) (mg : Str → Option Value) (base : Heap) (cv : Nat → Value) (n : Nat) : Prop where
  f_crossed : FnF (CX1 P w) P w K mg base cv n "crossed" 1 (m_crossed n)
  f_grouped_pair : FnF (CX1 P w) P w K mg base cv n "grouped_pair" 1 (m_grouped_pair n)
  f_grouped_side : FnF (CX1 P w) P w K mg base cv n "grouped_side" 1 (m_grouped_side n)
  f_swapped : FnF (CX1 P w) P w K mg base cv n "swapped" 2 (m_swapped n)
  f_forth_here : FnF (CX1 P w) P w K mg base cv n "forth_here" 3 (m_forth_here n)
  f_ungrouped_pair : FnF (CX1 P w) P w K mg base cv n "ungrouped_pair" 1 (m_ungrouped_pair n)
  f_ungrouped_side : FnF (CX1 P w) P w K mg base cv n "ungrouped_side" 1 (m_ungrouped_side n)
  f_back_here : FnF (CX1 P w) P w K mg base cv n "back_here" 3 (m_back_here n)
  f_things_along : FnF (CX1 P w) P w K mg base cv n "things_along" 3 (m_things_along n)
  f_thing_by : FnF (CX1 P w) P w K mg base cv n "thing_by" 4 (m_thing_by n)
  f_goes : FnF (CX1 P w) P w K mg base cv n "goes" 2 (m_goes n)
  f_parts_along : FnF (CX1 P w) P w K mg base cv n "parts_along" 2 (m_parts_along n)
  f_parts_to_turn : FnF (CX1 P w) P w K mg base cv n "parts_to_turn" 2 (m_parts_to_turn n)
  f_forth : FnF (CX1 P w) P w K mg base cv n "forth" 3 (m_forth n)
  f_back : FnF (CX1 P w) P w K mg base cv n "back" 3 (m_back n)
  f_count : FnF (CX1 P w) P w K mg base cv n "count" 2 (m_count n)
  f_law_things : FnF (CX1 P w) P w K mg base cv n "_law_things" 2 (m_law_things n)
  f_kind_here : FnF (CX1 P w) P w K mg base cv n "kind_here" 2 (m_kind_here n)
  f_kind_by : FnF (CX1 P w) P w K mg base cv n "kind_by" 2 (m_kind_by n)
  f_turned : FnF (CX1 P w) P w K mg base cv n "turned" 2 (m_turned n)
  f_law_here : FnF (CX1 P w) P w K mg base cv n "_law_here" 2 (m_law_here n)
  f_law_part : FnF (CX1 P w) P w K mg base cv n "_law_part" 2 (m_law_part n)
  f_law_paths : FnF (CX1 P w) P w K mg base cv n "_law_paths" 1 (m_law_paths n)
  f_law_all_turnings : FnF (CX1 P w) P w K mg base cv n "_law_all_turnings" 1 (m_law_all_turnings n)
  f_law_count : FnF (CX1 P w) P w K mg base cv n "_law_count" 2 (m_law_count n)
  f_law_draw : FnF (CX1 P w) P w K mg base cv n "_law_draw" 3 (m_law_draw n)
  f_law_sizes : FnF (CX1 P w) P w K mg base cv n "_law_sizes" 2 (m_law_sizes n)
  f_law_stir : FnF (CX1 P w) P w K mg base cv n "_law_stir" 1 (m_law_stir n)
  f_law_cell : FnF (CX1 P w) P w K mg base cv n "_law_cell" 2 (m_law_cell n)
  f_law_kind : FnF (CX1 P w) P w K mg base cv n "_law_kind" 3 (m_law_kind n)
  f_law : FnF (CX1 P w) P w K mg base cv n "law" 1 (m_law n)
section
variable {P : Program} {w : World} {K : PySem.W.Frag} {mg : Str → Option Value} {base : Heap} {cv : Nat → Value}
theorem all_0 (T : TxtF K mg) : AllF P w K mg base cv 0 := ⟨fnF0 T.t_crossed, fnF0 T.t_grouped_pair, fnF0 T.t_grouped_side, fnF0 T.t_swapped, fnF0 T.t_forth_here, fnF0 T.t_ungrouped_pair, fnF0 T.t_ungrouped_side, fnF0 T.t_back_here, fnF0 T.t_things_along, fnF0 T.t_thing_by, fnF0 T.t_goes, fnF0 T.t_parts_along, fnF0 T.t_parts_to_turn, fnF0 T.t_forth, fnF0 T.t_back, fnF0 T.t_count, fnF0 T.t_law_things, fnF0 T.t_kind_here, fnF0 T.t_kind_by, fnF0 T.t_turned, fnF0 T.t_law_here, fnF0 T.t_law_part, fnF0 T.t_law_paths, fnF0 T.t_law_all_turnings, fnF0 T.t_law_count, fnF0 T.t_law_draw, fnF0 T.t_law_sizes, fnF0 T.t_law_stir, fnF0 T.t_law_cell, fnF0 T.t_law_kind, fnF0 T.t_law⟩
theorem all_S {n : Nat} (M : MF mg) (T : TxtF K mg) (C : ClsF K mg cv) (A : AllF P w K mg base cv n) : AllF P w K mg base cv (n + 1) :=
  ⟨fnFS T.t_crossed fun f fd F => ok_crossed M F,
  fnFS T.t_grouped_pair fun f fd F => ok_grouped_pair M F,
  fnFS T.t_grouped_side fun f fd F => ok_grouped_side M F,
  fnFS T.t_swapped fun f fd F => ok_swapped M F,
  fnFS T.t_forth_here fun f fd F => ok_forth_here M F A.f_crossed A.f_grouped_pair A.f_grouped_side A.f_swapped,
  fnFS T.t_ungrouped_pair fun f fd F => ok_ungrouped_pair M F,
  fnFS T.t_ungrouped_side fun f fd F => ok_ungrouped_side M F,
  fnFS T.t_back_here fun f fd F => ok_back_here M F A.f_crossed A.f_ungrouped_pair A.f_ungrouped_side A.f_swapped,
  fnFS T.t_things_along fun f fd F => ok_things_along M F C.KT_SIDES,
  fnFS T.t_thing_by fun f fd F => ok_thing_by M F A.f_forth_here A.f_back_here A.f_things_along C.V_forth_here C.V_back_here,
  fnFS T.t_goes fun f fd F => ok_goes M F,
  fnFS T.t_parts_along fun f fd F => ok_parts_along M F C.R_NoTurning,
  fnFS T.t_parts_to_turn fun f fd F => ok_parts_to_turn M F A.f_goes A.f_parts_along C.R_NoTurning,
  fnFS T.t_forth fun f fd F => ok_forth M F A.f_thing_by A.f_parts_to_turn C.V_forth_here,
  fnFS T.t_back fun f fd F => ok_back M F A.f_thing_by A.f_parts_to_turn C.V_back_here,
  fnFS T.t_count fun f fd F => ok_count M F A.f_count,
  fnFS T.t_law_things fun f fd F => ok_law_things M F A.f_law_things,
  fnFS T.t_kind_here fun f fd F => ok_kind_here M F,
  fnFS T.t_kind_by fun f fd F => ok_kind_by M F A.f_kind_here,
  fnFS T.t_turned fun f fd F => ok_turned M F A.f_kind_by A.f_parts_to_turn,
  fnFS T.t_law_here fun f fd F => ok_law_here M F,
  fnFS T.t_law_part fun f fd F => ok_law_part M F,
  fnFS T.t_law_paths fun f fd F => ok_law_paths M F A.f_law_part,
  fnFS T.t_law_all_turnings fun f fd F => ok_law_all_turnings M F A.f_law_here A.f_law_part A.f_law_paths,
  fnFS T.t_law_count fun f fd F => ok_law_count M F A.f_law_count,
  fnFS T.t_law_draw fun f fd F => ok_law_draw M F,
  fnFS T.t_law_sizes fun f fd F => ok_law_sizes M F A.f_law_draw,
  fnFS T.t_law_stir fun f fd F => ok_law_stir M F,
  fnFS T.t_law_cell fun f fd F => ok_law_cell M F A.f_law_stir,
  fnFS T.t_law_kind fun f fd F => ok_law_kind M F A.f_law_kind A.f_law_draw,
  fnFS T.t_law fun f fd F => ok_law M F A.f_forth A.f_back A.f_count A.f_law_things A.f_turned A.f_law_all_turnings A.f_law_count A.f_law_sizes A.f_law_cell A.f_law_kind⟩
theorem all_n (M : MF mg) (T : TxtF K mg) (C : ClsF K mg cv) : ∀ n, AllF P w K mg base cv n
  | 0 => all_0 T
  | n + 1 => all_S M T C (all_n M T C n)
theorem law_fn {f : Addr} {fd : FuncData} (M : MF mg) (T : TxtF K mg) (C : ClsF K mg cv) (F : Fun K "law" "law" st_law f fd) : FnOk P w K mg base (CX1 P w) 31 f fd ["script"] (spD cv 1 (m_law 31)) :=
  have A := all_n (P := P) (w := w) (base := base) M T C 30
  ok_law M F A.f_forth A.f_back A.f_count A.f_law_things A.f_turned A.f_law_all_turnings A.f_law_count A.f_law_sizes A.f_law_cell A.f_law_kind
set_option maxHeartbeats 0 in
theorem fin_mk {h : Heap} (X : K.In h) (G : h.Ns mainGlobals mg)
    {f1 : Addr} {od1 an1 : Option Addr} {sl1 : Array (Option Value)} {oc1 kV1 dc1 pm1 cd1 ct1 : Value}
    (a1 : PySem.W.nsIn K mainGlobals "crossed" = some (some (.ref f1))) (l1 : K.lookup f1 = some ⟨oc1, od1, .func (PySem.W.fnOf "crossed" "crossed" (defArgs st_crossed) (defBody st_crossed) (defScope st_crossed) .none kV1 dc1 pm1 an1 cd1 ct1), sl1⟩) (c1 : PySem.W.codeIn K cd1 "crossed" = true) (k1 : PySem.W.keepIn K (.ref f1) = true)
    {f2 : Addr} {od2 an2 : Option Addr} {sl2 : Array (Option Value)} {oc2 kV2 dc2 pm2 cd2 ct2 : Value}
    (a2 : PySem.W.nsIn K mainGlobals "grouped_pair" = some (some (.ref f2))) (l2 : K.lookup f2 = some ⟨oc2, od2, .func (PySem.W.fnOf "grouped_pair" "grouped_pair" (defArgs st_grouped_pair) (defBody st_grouped_pair) (defScope st_grouped_pair) .none kV2 dc2 pm2 an2 cd2 ct2), sl2⟩) (c2 : PySem.W.codeIn K cd2 "grouped_pair" = true) (k2 : PySem.W.keepIn K (.ref f2) = true)
    {f3 : Addr} {od3 an3 : Option Addr} {sl3 : Array (Option Value)} {oc3 kV3 dc3 pm3 cd3 ct3 : Value}
    (a3 : PySem.W.nsIn K mainGlobals "grouped_side" = some (some (.ref f3))) (l3 : K.lookup f3 = some ⟨oc3, od3, .func (PySem.W.fnOf "grouped_side" "grouped_side" (defArgs st_grouped_side) (defBody st_grouped_side) (defScope st_grouped_side) .none kV3 dc3 pm3 an3 cd3 ct3), sl3⟩) (c3 : PySem.W.codeIn K cd3 "grouped_side" = true) (k3 : PySem.W.keepIn K (.ref f3) = true)
    {f4 : Addr} {od4 an4 : Option Addr} {sl4 : Array (Option Value)} {oc4 kV4 dc4 pm4 cd4 ct4 : Value}
    (a4 : PySem.W.nsIn K mainGlobals "swapped" = some (some (.ref f4))) (l4 : K.lookup f4 = some ⟨oc4, od4, .func (PySem.W.fnOf "swapped" "swapped" (defArgs st_swapped) (defBody st_swapped) (defScope st_swapped) .none kV4 dc4 pm4 an4 cd4 ct4), sl4⟩) (c4 : PySem.W.codeIn K cd4 "swapped" = true) (k4 : PySem.W.keepIn K (.ref f4) = true)
    {f5 : Addr} {od5 an5 : Option Addr} {sl5 : Array (Option Value)} {oc5 kV5 dc5 pm5 cd5 ct5 : Value}
    (a5 : PySem.W.nsIn K mainGlobals "forth_here" = some (some (.ref f5))) (l5 : K.lookup f5 = some ⟨oc5, od5, .func (PySem.W.fnOf "forth_here" "forth_here" (defArgs st_forth_here) (defBody st_forth_here) (defScope st_forth_here) .none kV5 dc5 pm5 an5 cd5 ct5), sl5⟩) (c5 : PySem.W.codeIn K cd5 "forth_here" = true) (k5 : PySem.W.keepIn K (.ref f5) = true)
    {f6 : Addr} {od6 an6 : Option Addr} {sl6 : Array (Option Value)} {oc6 kV6 dc6 pm6 cd6 ct6 : Value}
    (a6 : PySem.W.nsIn K mainGlobals "ungrouped_pair" = some (some (.ref f6))) (l6 : K.lookup f6 = some ⟨oc6, od6, .func (PySem.W.fnOf "ungrouped_pair" "ungrouped_pair" (defArgs st_ungrouped_pair) (defBody st_ungrouped_pair) (defScope st_ungrouped_pair) .none kV6 dc6 pm6 an6 cd6 ct6), sl6⟩) (c6 : PySem.W.codeIn K cd6 "ungrouped_pair" = true) (k6 : PySem.W.keepIn K (.ref f6) = true)
    {f7 : Addr} {od7 an7 : Option Addr} {sl7 : Array (Option Value)} {oc7 kV7 dc7 pm7 cd7 ct7 : Value}
    (a7 : PySem.W.nsIn K mainGlobals "ungrouped_side" = some (some (.ref f7))) (l7 : K.lookup f7 = some ⟨oc7, od7, .func (PySem.W.fnOf "ungrouped_side" "ungrouped_side" (defArgs st_ungrouped_side) (defBody st_ungrouped_side) (defScope st_ungrouped_side) .none kV7 dc7 pm7 an7 cd7 ct7), sl7⟩) (c7 : PySem.W.codeIn K cd7 "ungrouped_side" = true) (k7 : PySem.W.keepIn K (.ref f7) = true)
    {f8 : Addr} {od8 an8 : Option Addr} {sl8 : Array (Option Value)} {oc8 kV8 dc8 pm8 cd8 ct8 : Value}
    (a8 : PySem.W.nsIn K mainGlobals "back_here" = some (some (.ref f8))) (l8 : K.lookup f8 = some ⟨oc8, od8, .func (PySem.W.fnOf "back_here" "back_here" (defArgs st_back_here) (defBody st_back_here) (defScope st_back_here) .none kV8 dc8 pm8 an8 cd8 ct8), sl8⟩) (c8 : PySem.W.codeIn K cd8 "back_here" = true) (k8 : PySem.W.keepIn K (.ref f8) = true)
    {f9 : Addr} {od9 an9 : Option Addr} {sl9 : Array (Option Value)} {oc9 kV9 dc9 pm9 cd9 ct9 : Value}
    (a9 : PySem.W.nsIn K mainGlobals "things_along" = some (some (.ref f9))) (l9 : K.lookup f9 = some ⟨oc9, od9, .func (PySem.W.fnOf "things_along" "things_along" (defArgs st_things_along) (defBody st_things_along) (defScope st_things_along) .none kV9 dc9 pm9 an9 cd9 ct9), sl9⟩) (c9 : PySem.W.codeIn K cd9 "things_along" = true) (k9 : PySem.W.keepIn K (.ref f9) = true)
    {f10 : Addr} {od10 an10 : Option Addr} {sl10 : Array (Option Value)} {oc10 kV10 dc10 pm10 cd10 ct10 : Value}
    (a10 : PySem.W.nsIn K mainGlobals "thing_by" = some (some (.ref f10))) (l10 : K.lookup f10 = some ⟨oc10, od10, .func (PySem.W.fnOf "thing_by" "thing_by" (defArgs st_thing_by) (defBody st_thing_by) (defScope st_thing_by) .none kV10 dc10 pm10 an10 cd10 ct10), sl10⟩) (c10 : PySem.W.codeIn K cd10 "thing_by" = true) (k10 : PySem.W.keepIn K (.ref f10) = true)
    {f11 : Addr} {od11 an11 : Option Addr} {sl11 : Array (Option Value)} {oc11 kV11 dc11 pm11 cd11 ct11 : Value}
    (a11 : PySem.W.nsIn K mainGlobals "goes" = some (some (.ref f11))) (l11 : K.lookup f11 = some ⟨oc11, od11, .func (PySem.W.fnOf "goes" "goes" (defArgs st_goes) (defBody st_goes) (defScope st_goes) .none kV11 dc11 pm11 an11 cd11 ct11), sl11⟩) (c11 : PySem.W.codeIn K cd11 "goes" = true) (k11 : PySem.W.keepIn K (.ref f11) = true)
    {f12 : Addr} {od12 an12 : Option Addr} {sl12 : Array (Option Value)} {oc12 kV12 dc12 pm12 cd12 ct12 : Value}
    (a12 : PySem.W.nsIn K mainGlobals "parts_along" = some (some (.ref f12))) (l12 : K.lookup f12 = some ⟨oc12, od12, .func (PySem.W.fnOf "parts_along" "parts_along" (defArgs st_parts_along) (defBody st_parts_along) (defScope st_parts_along) .none kV12 dc12 pm12 an12 cd12 ct12), sl12⟩) (c12 : PySem.W.codeIn K cd12 "parts_along" = true) (k12 : PySem.W.keepIn K (.ref f12) = true)
    {f13 : Addr} {od13 an13 : Option Addr} {sl13 : Array (Option Value)} {oc13 kV13 dc13 pm13 cd13 ct13 : Value}
    (a13 : PySem.W.nsIn K mainGlobals "parts_to_turn" = some (some (.ref f13))) (l13 : K.lookup f13 = some ⟨oc13, od13, .func (PySem.W.fnOf "parts_to_turn" "parts_to_turn" (defArgs st_parts_to_turn) (defBody st_parts_to_turn) (defScope st_parts_to_turn) .none kV13 dc13 pm13 an13 cd13 ct13), sl13⟩) (c13 : PySem.W.codeIn K cd13 "parts_to_turn" = true) (k13 : PySem.W.keepIn K (.ref f13) = true)
    {f14 : Addr} {od14 an14 : Option Addr} {sl14 : Array (Option Value)} {oc14 kV14 dc14 pm14 cd14 ct14 : Value}
    (a14 : PySem.W.nsIn K mainGlobals "forth" = some (some (.ref f14))) (l14 : K.lookup f14 = some ⟨oc14, od14, .func (PySem.W.fnOf "forth" "forth" (defArgs st_forth) (defBody st_forth) (defScope st_forth) .none kV14 dc14 pm14 an14 cd14 ct14), sl14⟩) (c14 : PySem.W.codeIn K cd14 "forth" = true) (k14 : PySem.W.keepIn K (.ref f14) = true)
    {f15 : Addr} {od15 an15 : Option Addr} {sl15 : Array (Option Value)} {oc15 kV15 dc15 pm15 cd15 ct15 : Value}
    (a15 : PySem.W.nsIn K mainGlobals "back" = some (some (.ref f15))) (l15 : K.lookup f15 = some ⟨oc15, od15, .func (PySem.W.fnOf "back" "back" (defArgs st_back) (defBody st_back) (defScope st_back) .none kV15 dc15 pm15 an15 cd15 ct15), sl15⟩) (c15 : PySem.W.codeIn K cd15 "back" = true) (k15 : PySem.W.keepIn K (.ref f15) = true)
    {f16 : Addr} {od16 an16 : Option Addr} {sl16 : Array (Option Value)} {oc16 kV16 dc16 pm16 cd16 ct16 : Value}
    (a16 : PySem.W.nsIn K mainGlobals "count" = some (some (.ref f16))) (l16 : K.lookup f16 = some ⟨oc16, od16, .func (PySem.W.fnOf "count" "count" (defArgs st_count) (defBody st_count) (defScope st_count) .none kV16 dc16 pm16 an16 cd16 ct16), sl16⟩) (c16 : PySem.W.codeIn K cd16 "count" = true) (k16 : PySem.W.keepIn K (.ref f16) = true)
    {f17 : Addr} {od17 an17 : Option Addr} {sl17 : Array (Option Value)} {oc17 kV17 dc17 pm17 cd17 ct17 : Value}
    (a17 : PySem.W.nsIn K mainGlobals "_law_things" = some (some (.ref f17))) (l17 : K.lookup f17 = some ⟨oc17, od17, .func (PySem.W.fnOf "_law_things" "_law_things" (defArgs st_law_things) (defBody st_law_things) (defScope st_law_things) .none kV17 dc17 pm17 an17 cd17 ct17), sl17⟩) (c17 : PySem.W.codeIn K cd17 "_law_things" = true) (k17 : PySem.W.keepIn K (.ref f17) = true)
    {f18 : Addr} {od18 an18 : Option Addr} {sl18 : Array (Option Value)} {oc18 kV18 dc18 pm18 cd18 ct18 : Value}
    (a18 : PySem.W.nsIn K mainGlobals "kind_here" = some (some (.ref f18))) (l18 : K.lookup f18 = some ⟨oc18, od18, .func (PySem.W.fnOf "kind_here" "kind_here" (defArgs st_kind_here) (defBody st_kind_here) (defScope st_kind_here) .none kV18 dc18 pm18 an18 cd18 ct18), sl18⟩) (c18 : PySem.W.codeIn K cd18 "kind_here" = true) (k18 : PySem.W.keepIn K (.ref f18) = true)
    {f19 : Addr} {od19 an19 : Option Addr} {sl19 : Array (Option Value)} {oc19 kV19 dc19 pm19 cd19 ct19 : Value}
    (a19 : PySem.W.nsIn K mainGlobals "kind_by" = some (some (.ref f19))) (l19 : K.lookup f19 = some ⟨oc19, od19, .func (PySem.W.fnOf "kind_by" "kind_by" (defArgs st_kind_by) (defBody st_kind_by) (defScope st_kind_by) .none kV19 dc19 pm19 an19 cd19 ct19), sl19⟩) (c19 : PySem.W.codeIn K cd19 "kind_by" = true) (k19 : PySem.W.keepIn K (.ref f19) = true)
    {f20 : Addr} {od20 an20 : Option Addr} {sl20 : Array (Option Value)} {oc20 kV20 dc20 pm20 cd20 ct20 : Value}
    (a20 : PySem.W.nsIn K mainGlobals "turned" = some (some (.ref f20))) (l20 : K.lookup f20 = some ⟨oc20, od20, .func (PySem.W.fnOf "turned" "turned" (defArgs st_turned) (defBody st_turned) (defScope st_turned) .none kV20 dc20 pm20 an20 cd20 ct20), sl20⟩) (c20 : PySem.W.codeIn K cd20 "turned" = true) (k20 : PySem.W.keepIn K (.ref f20) = true)
    {f21 : Addr} {od21 an21 : Option Addr} {sl21 : Array (Option Value)} {oc21 kV21 dc21 pm21 cd21 ct21 : Value}
    (a21 : PySem.W.nsIn K mainGlobals "_law_here" = some (some (.ref f21))) (l21 : K.lookup f21 = some ⟨oc21, od21, .func (PySem.W.fnOf "_law_here" "_law_here" (defArgs st_law_here) (defBody st_law_here) (defScope st_law_here) .none kV21 dc21 pm21 an21 cd21 ct21), sl21⟩) (c21 : PySem.W.codeIn K cd21 "_law_here" = true) (k21 : PySem.W.keepIn K (.ref f21) = true)
    {f22 : Addr} {od22 an22 : Option Addr} {sl22 : Array (Option Value)} {oc22 kV22 dc22 pm22 cd22 ct22 : Value}
    (a22 : PySem.W.nsIn K mainGlobals "_law_part" = some (some (.ref f22))) (l22 : K.lookup f22 = some ⟨oc22, od22, .func (PySem.W.fnOf "_law_part" "_law_part" (defArgs st_law_part) (defBody st_law_part) (defScope st_law_part) .none kV22 dc22 pm22 an22 cd22 ct22), sl22⟩) (c22 : PySem.W.codeIn K cd22 "_law_part" = true) (k22 : PySem.W.keepIn K (.ref f22) = true)
    {f23 : Addr} {od23 an23 : Option Addr} {sl23 : Array (Option Value)} {oc23 kV23 dc23 pm23 cd23 ct23 : Value}
    (a23 : PySem.W.nsIn K mainGlobals "_law_paths" = some (some (.ref f23))) (l23 : K.lookup f23 = some ⟨oc23, od23, .func (PySem.W.fnOf "_law_paths" "_law_paths" (defArgs st_law_paths) (defBody st_law_paths) (defScope st_law_paths) .none kV23 dc23 pm23 an23 cd23 ct23), sl23⟩) (c23 : PySem.W.codeIn K cd23 "_law_paths" = true) (k23 : PySem.W.keepIn K (.ref f23) = true)
    {f24 : Addr} {od24 an24 : Option Addr} {sl24 : Array (Option Value)} {oc24 kV24 dc24 pm24 cd24 ct24 : Value}
    (a24 : PySem.W.nsIn K mainGlobals "_law_all_turnings" = some (some (.ref f24))) (l24 : K.lookup f24 = some ⟨oc24, od24, .func (PySem.W.fnOf "_law_all_turnings" "_law_all_turnings" (defArgs st_law_all_turnings) (defBody st_law_all_turnings) (defScope st_law_all_turnings) .none kV24 dc24 pm24 an24 cd24 ct24), sl24⟩) (c24 : PySem.W.codeIn K cd24 "_law_all_turnings" = true) (k24 : PySem.W.keepIn K (.ref f24) = true)
    {f25 : Addr} {od25 an25 : Option Addr} {sl25 : Array (Option Value)} {oc25 kV25 dc25 pm25 cd25 ct25 : Value}
    (a25 : PySem.W.nsIn K mainGlobals "_law_count" = some (some (.ref f25))) (l25 : K.lookup f25 = some ⟨oc25, od25, .func (PySem.W.fnOf "_law_count" "_law_count" (defArgs st_law_count) (defBody st_law_count) (defScope st_law_count) .none kV25 dc25 pm25 an25 cd25 ct25), sl25⟩) (c25 : PySem.W.codeIn K cd25 "_law_count" = true) (k25 : PySem.W.keepIn K (.ref f25) = true)
    {f26 : Addr} {od26 an26 : Option Addr} {sl26 : Array (Option Value)} {oc26 kV26 dc26 pm26 cd26 ct26 : Value}
    (a26 : PySem.W.nsIn K mainGlobals "_law_draw" = some (some (.ref f26))) (l26 : K.lookup f26 = some ⟨oc26, od26, .func (PySem.W.fnOf "_law_draw" "_law_draw" (defArgs st_law_draw) (defBody st_law_draw) (defScope st_law_draw) .none kV26 dc26 pm26 an26 cd26 ct26), sl26⟩) (c26 : PySem.W.codeIn K cd26 "_law_draw" = true) (k26 : PySem.W.keepIn K (.ref f26) = true)
    {f27 : Addr} {od27 an27 : Option Addr} {sl27 : Array (Option Value)} {oc27 kV27 dc27 pm27 cd27 ct27 : Value}
    (a27 : PySem.W.nsIn K mainGlobals "_law_sizes" = some (some (.ref f27))) (l27 : K.lookup f27 = some ⟨oc27, od27, .func (PySem.W.fnOf "_law_sizes" "_law_sizes" (defArgs st_law_sizes) (defBody st_law_sizes) (defScope st_law_sizes) .none kV27 dc27 pm27 an27 cd27 ct27), sl27⟩) (c27 : PySem.W.codeIn K cd27 "_law_sizes" = true) (k27 : PySem.W.keepIn K (.ref f27) = true)
    {f28 : Addr} {od28 an28 : Option Addr} {sl28 : Array (Option Value)} {oc28 kV28 dc28 pm28 cd28 ct28 : Value}
    (a28 : PySem.W.nsIn K mainGlobals "_law_stir" = some (some (.ref f28))) (l28 : K.lookup f28 = some ⟨oc28, od28, .func (PySem.W.fnOf "_law_stir" "_law_stir" (defArgs st_law_stir) (defBody st_law_stir) (defScope st_law_stir) .none kV28 dc28 pm28 an28 cd28 ct28), sl28⟩) (c28 : PySem.W.codeIn K cd28 "_law_stir" = true) (k28 : PySem.W.keepIn K (.ref f28) = true)
    {f29 : Addr} {od29 an29 : Option Addr} {sl29 : Array (Option Value)} {oc29 kV29 dc29 pm29 cd29 ct29 : Value}
    (a29 : PySem.W.nsIn K mainGlobals "_law_cell" = some (some (.ref f29))) (l29 : K.lookup f29 = some ⟨oc29, od29, .func (PySem.W.fnOf "_law_cell" "_law_cell" (defArgs st_law_cell) (defBody st_law_cell) (defScope st_law_cell) .none kV29 dc29 pm29 an29 cd29 ct29), sl29⟩) (c29 : PySem.W.codeIn K cd29 "_law_cell" = true) (k29 : PySem.W.keepIn K (.ref f29) = true)
    {f30 : Addr} {od30 an30 : Option Addr} {sl30 : Array (Option Value)} {oc30 kV30 dc30 pm30 cd30 ct30 : Value}
    (a30 : PySem.W.nsIn K mainGlobals "_law_kind" = some (some (.ref f30))) (l30 : K.lookup f30 = some ⟨oc30, od30, .func (PySem.W.fnOf "_law_kind" "_law_kind" (defArgs st_law_kind) (defBody st_law_kind) (defScope st_law_kind) .none kV30 dc30 pm30 an30 cd30 ct30), sl30⟩) (c30 : PySem.W.codeIn K cd30 "_law_kind" = true) (k30 : PySem.W.keepIn K (.ref f30) = true)
    {f31 : Addr} {od31 an31 : Option Addr} {sl31 : Array (Option Value)} {oc31 kV31 dc31 pm31 cd31 ct31 : Value}
    (a31 : PySem.W.nsIn K mainGlobals "law" = some (some (.ref f31))) (l31 : K.lookup f31 = some ⟨oc31, od31, .func (PySem.W.fnOf "law" "law" (defArgs st_law) (defBody st_law) (defScope st_law) .none kV31 dc31 pm31 an31 cd31 ct31), sl31⟩) (c31 : PySem.W.codeIn K cd31 "law" = true) (k31 : PySem.W.keepIn K (.ref f31) = true)
    (zM : (["len", "int", "bool", "str", "tuple", "list", "isinstance", "range", "enumerate", "zip", "reversed"] : List Str).all (fun x => PySem.W.nsIn K mainGlobals x == some none) = true) (zRNoTurning : excB K "NoTurning" = true) (zFforth_here : PySem.W.nsIn K mainGlobals "forth_here" = some (some (.ref A_forth_here))) (zFback_here : PySem.W.nsIn K mainGlobals "back_here" = some (some (.ref A_back_here))) (zTSIDES : ktupB K "SIDES" (.tuple [.str "left", .str "right"]) = true) :
    FunT K mg "law" st_law ["script"] ∧ ∀ f fd, Fun K "law" "law" st_law f fd → ∀ base : Heap, FnOk P w K mg base (CX1 P w) 31 f fd ["script"] (spD (cvOf K) 1 (m_law 31)) := by
  have t1 : FunT K mg "crossed" st_crossed ["thing"] := funT_mk X G a1 l1 c1 k1 fun _ _ _ _ _ _ us hl => by obtain ⟨a, rfl⟩ := len1 hl; rfl
  have t2 : FunT K mg "grouped_pair" st_grouped_pair ["thing"] := funT_mk X G a2 l2 c2 k2 fun _ _ _ _ _ _ us hl => by obtain ⟨a, rfl⟩ := len1 hl; rfl
  have t3 : FunT K mg "grouped_side" st_grouped_side ["thing"] := funT_mk X G a3 l3 c3 k3 fun _ _ _ _ _ _ us hl => by obtain ⟨a, rfl⟩ := len1 hl; rfl
  have t4 : FunT K mg "swapped" st_swapped ["is_both", "thing"] := funT_mk X G a4 l4 c4 k4 fun _ _ _ _ _ _ us hl => by obtain ⟨a, b, rfl⟩ := len2 hl; rfl
  have t5 : FunT K mg "forth_here" st_forth_here ["word", "found", "thing"] := funT_mk X G a5 l5 c5 k5 fun _ _ _ _ _ _ us hl => by obtain ⟨a, b, c, rfl⟩ := len3 hl; rfl
  have t6 : FunT K mg "ungrouped_pair" st_ungrouped_pair ["thing"] := funT_mk X G a6 l6 c6 k6 fun _ _ _ _ _ _ us hl => by obtain ⟨a, rfl⟩ := len1 hl; rfl
  have t7 : FunT K mg "ungrouped_side" st_ungrouped_side ["thing"] := funT_mk X G a7 l7 c7 k7 fun _ _ _ _ _ _ us hl => by obtain ⟨a, rfl⟩ := len1 hl; rfl
  have t8 : FunT K mg "back_here" st_back_here ["word", "found", "thing"] := funT_mk X G a8 l8 c8 k8 fun _ _ _ _ _ _ us hl => by obtain ⟨a, b, c, rfl⟩ := len3 hl; rfl
  have t9 : FunT K mg "things_along" st_things_along ["parts", "path", "thing"] := funT_mk X G a9 l9 c9 k9 fun _ _ _ _ _ _ us hl => by obtain ⟨a, b, c, rfl⟩ := len3 hl; rfl
  have t10 : FunT K mg "thing_by" st_thing_by ["parts", "turning", "thing", "change"] := funT_mk X G a10 l10 c10 k10 fun _ _ _ _ _ _ us hl => by obtain ⟨a, b, c, d, rfl⟩ := len4 hl; rfl
  have t11 : FunT K mg "goes" st_goes ["word", "found"] := funT_mk X G a11 l11 c11 k11 fun _ _ _ _ _ _ us hl => by obtain ⟨a, b, rfl⟩ := len2 hl; rfl
  have t12 : FunT K mg "parts_along" st_parts_along ["kind", "path"] := funT_mk X G a12 l12 c12 k12 fun _ _ _ _ _ _ us hl => by obtain ⟨a, b, rfl⟩ := len2 hl; rfl
  have t13 : FunT K mg "parts_to_turn" st_parts_to_turn ["kind", "turning"] := funT_mk X G a13 l13 c13 k13 fun _ _ _ _ _ _ us hl => by obtain ⟨a, b, rfl⟩ := len2 hl; rfl
  have t14 : FunT K mg "forth" st_forth ["kind", "turning", "thing"] := funT_mk X G a14 l14 c14 k14 fun _ _ _ _ _ _ us hl => by obtain ⟨a, b, c, rfl⟩ := len3 hl; rfl
  have t15 : FunT K mg "back" st_back ["kind", "turning", "thing"] := funT_mk X G a15 l15 c15 k15 fun _ _ _ _ _ _ us hl => by obtain ⟨a, b, c, rfl⟩ := len3 hl; rfl
  have t16 : FunT K mg "count" st_count ["kind", "sizes"] := funT_mk X G a16 l16 c16 k16 fun _ _ _ _ _ _ us hl => by obtain ⟨a, b, rfl⟩ := len2 hl; rfl
  have t17 : FunT K mg "_law_things" st_law_things ["kind", "sizes"] := funT_mk X G a17 l17 c17 k17 fun _ _ _ _ _ _ us hl => by obtain ⟨a, b, rfl⟩ := len2 hl; rfl
  have t18 : FunT K mg "kind_here" st_kind_here ["word", "found"] := funT_mk X G a18 l18 c18 k18 fun _ _ _ _ _ _ us hl => by obtain ⟨a, b, rfl⟩ := len2 hl; rfl
  have t19 : FunT K mg "kind_by" st_kind_by ["parts", "turning"] := funT_mk X G a19 l19 c19 k19 fun _ _ _ _ _ _ us hl => by obtain ⟨a, b, rfl⟩ := len2 hl; rfl
  have t20 : FunT K mg "turned" st_turned ["kind", "turning"] := funT_mk X G a20 l20 c20 k20 fun _ _ _ _ _ _ us hl => by obtain ⟨a, b, rfl⟩ := len2 hl; rfl
  have t21 : FunT K mg "_law_here" st_law_here ["kind", "word"] := funT_mk X G a21 l21 c21 k21 fun _ _ _ _ _ _ us hl => by obtain ⟨a, b, rfl⟩ := len2 hl; rfl
  have t22 : FunT K mg "_law_part" st_law_part ["kind", "path"] := funT_mk X G a22 l22 c22 k22 fun _ _ _ _ _ _ us hl => by obtain ⟨a, b, rfl⟩ := len2 hl; rfl
  have t23 : FunT K mg "_law_paths" st_law_paths ["kind"] := funT_mk X G a23 l23 c23 k23 fun _ _ _ _ _ _ us hl => by obtain ⟨a, rfl⟩ := len1 hl; rfl
  have t24 : FunT K mg "_law_all_turnings" st_law_all_turnings ["kind"] := funT_mk X G a24 l24 c24 k24 fun _ _ _ _ _ _ us hl => by obtain ⟨a, rfl⟩ := len1 hl; rfl
  have t25 : FunT K mg "_law_count" st_law_count ["kind", "sizes"] := funT_mk X G a25 l25 c25 k25 fun _ _ _ _ _ _ us hl => by obtain ⟨a, b, rfl⟩ := len2 hl; rfl
  have t26 : FunT K mg "_law_draw" st_law_draw ["cell", "k", "bound"] := funT_mk X G a26 l26 c26 k26 fun _ _ _ _ _ _ us hl => by obtain ⟨a, b, c, rfl⟩ := len3 hl; rfl
  have t27 : FunT K mg "_law_sizes" st_law_sizes ["cell", "top"] := funT_mk X G a27 l27 c27 k27 fun _ _ _ _ _ _ us hl => by obtain ⟨a, b, rfl⟩ := len2 hl; rfl
  have t28 : FunT K mg "_law_stir" st_law_stir ["cell"] := funT_mk X G a28 l28 c28 k28 fun _ _ _ _ _ _ us hl => by obtain ⟨a, rfl⟩ := len1 hl; rfl
  have t29 : FunT K mg "_law_cell" st_law_cell ["script", "k"] := funT_mk X G a29 l29 c29 k29 fun _ _ _ _ _ _ us hl => by obtain ⟨a, b, rfl⟩ := len2 hl; rfl
  have t30 : FunT K mg "_law_kind" st_law_kind ["cell", "leaves", "k"] := funT_mk X G a30 l30 c30 k30 fun _ _ _ _ _ _ us hl => by obtain ⟨a, b, c, rfl⟩ := len3 hl; rfl
  have t31 : FunT K mg "law" st_law ["script"] := funT_mk X G a31 l31 c31 k31 fun _ _ _ _ _ _ us hl => by obtain ⟨a, rfl⟩ := len1 hl; rfl
  have M : MF mg := mF_of X G zM
  have C : ClsF K mg (cvOf K) := ⟨trivial, excF_own (x := "NoTurning") (c := 2) X G rfl zRNoTurning, PySem.W.mg_of X G zFforth_here, PySem.W.mg_of X G zFback_here, kTup_of X G zTSIDES⟩
  exact ⟨t31, fun f fd F base => law_fn M ⟨t1, t2, t3, t4, t5, t6, t7, t8, t9, t10, t11, t12, t13, t14, t15, t16, t17, t18, t19, t20, t21, t22, t23, t24, t25, t26, t27, t28, t29, t30, t31⟩ C F⟩
end
end KT
open PySem PySem.W PyProof.Rows
set_option maxRecDepth 100000 in
set_option maxHeartbeats 0 in
theorem PySem.Challenge.cw_kindturn_k07_whole_one_to_one_holds : PySem.Challenge.rw_kindturn_k07_whole_one_to_one.Holds := by
  w_on; o_law; k_head; (case hw => w_witness2)
  k_fill
  refine KT.walk (l := PySem.Challenge.rw_kindturn_k07_whole_one_to_one) (g := KT.m_law 31) (N := 31) (st := KT.st_law) rfl rfl ⟨rfl, by decide, by decide⟩ (fun w h Y => PySem.W.kIn_of Y) rfl ?F ?L fun ns hns => KT.law_true ns hns
  case L => intro w; kernel_rfl
  case F =>
    intro w mg h KX G
    refine' KT.fin_mk KX G ?a1 ?l1 ?c1 ?k1 ?a2 ?l2 ?c2 ?k2 ?a3 ?l3 ?c3 ?k3 ?a4 ?l4 ?c4 ?k4 ?a5 ?l5 ?c5 ?k5 ?a6 ?l6 ?c6 ?k6 ?a7 ?l7 ?c7 ?k7 ?a8 ?l8 ?c8 ?k8 ?a9 ?l9 ?c9 ?k9 ?a10 ?l10 ?c10 ?k10 ?a11 ?l11 ?c11 ?k11 ?a12 ?l12 ?c12 ?k12 ?a13 ?l13 ?c13 ?k13 ?a14 ?l14 ?c14 ?k14 ?a15 ?l15 ?c15 ?k15 ?a16 ?l16 ?c16 ?k16 ?a17 ?l17 ?c17 ?k17 ?a18 ?l18 ?c18 ?k18 ?a19 ?l19 ?c19 ?k19 ?a20 ?l20 ?c20 ?k20 ?a21 ?l21 ?c21 ?k21 ?a22 ?l22 ?c22 ?k22 ?a23 ?l23 ?c23 ?k23 ?a24 ?l24 ?c24 ?k24 ?a25 ?l25 ?c25 ?k25 ?a26 ?l26 ?c26 ?k26 ?a27 ?l27 ?c27 ?k27 ?a28 ?l28 ?c28 ?k28 ?a29 ?l29 ?c29 ?k29 ?a30 ?l30 ?c30 ?k30 ?a31 ?l31 ?c31 ?k31 ?zM ?zRNoTurning ?zFforth_here ?zFback_here ?zTSIDES
    (case a1 => k_is); (case l1 => k_is); (case c1 => k_is); (case k1 => k_is)
    (case a2 => k_is); (case l2 => k_is); (case c2 => k_is); (case k2 => k_is)
    (case a3 => k_is); (case l3 => k_is); (case c3 => k_is); (case k3 => k_is)
    (case a4 => k_is); (case l4 => k_is); (case c4 => k_is); (case k4 => k_is)
    (case a5 => k_is); (case l5 => k_is); (case c5 => k_is); (case k5 => k_is)
    (case a6 => k_is); (case l6 => k_is); (case c6 => k_is); (case k6 => k_is)
    (case a7 => k_is); (case l7 => k_is); (case c7 => k_is); (case k7 => k_is)
    (case a8 => k_is); (case l8 => k_is); (case c8 => k_is); (case k8 => k_is)
    (case a9 => k_is); (case l9 => k_is); (case c9 => k_is); (case k9 => k_is)
    (case a10 => k_is); (case l10 => k_is); (case c10 => k_is); (case k10 => k_is)
    (case a11 => k_is); (case l11 => k_is); (case c11 => k_is); (case k11 => k_is)
    (case a12 => k_is); (case l12 => k_is); (case c12 => k_is); (case k12 => k_is)
    (case a13 => k_is); (case l13 => k_is); (case c13 => k_is); (case k13 => k_is)
    (case a14 => k_is); (case l14 => k_is); (case c14 => k_is); (case k14 => k_is)
    (case a15 => k_is); (case l15 => k_is); (case c15 => k_is); (case k15 => k_is)
    (case a16 => k_is); (case l16 => k_is); (case c16 => k_is); (case k16 => k_is)
    (case a17 => k_is); (case l17 => k_is); (case c17 => k_is); (case k17 => k_is)
    (case a18 => k_is); (case l18 => k_is); (case c18 => k_is); (case k18 => k_is)
    (case a19 => k_is); (case l19 => k_is); (case c19 => k_is); (case k19 => k_is)
    (case a20 => k_is); (case l20 => k_is); (case c20 => k_is); (case k20 => k_is)
    (case a21 => k_is); (case l21 => k_is); (case c21 => k_is); (case k21 => k_is)
    (case a22 => k_is); (case l22 => k_is); (case c22 => k_is); (case k22 => k_is)
    (case a23 => k_is); (case l23 => k_is); (case c23 => k_is); (case k23 => k_is)
    (case a24 => k_is); (case l24 => k_is); (case c24 => k_is); (case k24 => k_is)
    (case a25 => k_is); (case l25 => k_is); (case c25 => k_is); (case k25 => k_is)
    (case a26 => k_is); (case l26 => k_is); (case c26 => k_is); (case k26 => k_is)
    (case a27 => k_is); (case l27 => k_is); (case c27 => k_is); (case k27 => k_is)
    (case a28 => k_is); (case l28 => k_is); (case c28 => k_is); (case k28 => k_is)
    (case a29 => k_is); (case l29 => k_is); (case c29 => k_is); (case k29 => k_is)
    (case a30 => k_is); (case l30 => k_is); (case c30 => k_is); (case k30 => k_is)
    (case a31 => k_is); (case l31 => k_is); (case c31 => k_is); (case k31 => k_is)
    (case zM => kernel_rfl)
    (case zRNoTurning => kernel_rfl)
    (case zFforth_here => kernel_rfl)
    (case zFback_here => kernel_rfl)
    (case zTSIDES => kernel_rfl)

