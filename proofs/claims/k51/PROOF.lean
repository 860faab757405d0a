import PyProof.Rows.All
import Wide.All
import OpenK.AllK
import Wide.FinOn
import HandS.ForMost
import KE.KeyNested
import HandS.TupLen
import HandS.Lambda
import HandS.Nested
import HandS.Conv
import KE.KLam
import KE.SortKeyHeap
import KE.SortData
import HandS.Walk
import HandS.IsInst
import HandS.Sort
import HandS.OwnEq
import HandS.Exc
import HandS.ExcInit
import HandS.ExcIs
import HandS.ExcField
import HandS.ExcValue
import HandS.SuiteRaise
import KE.KExcIs
import KE.KStateDown
import Lean
import HandS.Base
import HandS.Call
import HandS.Ends
import HandS.More
import HandS.Words
import HandS.WordsExc
import HandS.Defaults
import HandS.Head0
import HandS.Head1
import HandS.Head2
import HandS.HeadEnd
import HandS.HeadHook1
import HandS.HeadHook2
import HandS.HeadHook3
import HandS.HeadHook4
import HandS.HeadWalk
import PyProof.ReprRoads
import PyProof.ReprLen
import HandS.List
import HandS.ExcOwn
import PyProof.NeKinds
import PyProof.StrOps2
import HandS.EndTab
import HandS.DictTup
import HandS.Small
import PyProof.ExcBaseAll.ValueError
import KE.KDictWalk
import KE.KDictCopyH
import HandS.Wide
import HandS.Text
import HandS.Deep
import HandS.Style
import PySem.Challenge.RW_subjecttags_k51_mailboxes_refused
set_option Elab.async false
section
set_option Elab.async false
set_option linter.all false
set_option maxRecDepth 100000
/-! dicts whose keys are tuples of any depth (None, ints, texts, tuples): get, in, not in, put, made empty -/
namespace QD
open PySem PySem.Spec PyProof.Rows L2

mutual
inductive NV (H : Hp) : NestedKey → V → Prop
  | none : NV H .none .non
  | num (i : Int) : NV H (.num i) (.int i)
  | text (x : Str) : NV H (.text x) (.str x)
  | tup {a : Addr} {vs : List V} {ks : List NestedKey} : H a = some (.tup vs) → NVs H ks vs → NV H (.tup ks) (.ref a)
inductive NVs (H : Hp) : List NestedKey → List V → Prop
  | nil : NVs H [] []
  | cons {k : NestedKey} {v : V} {ks : List NestedKey} {vs : List V} : NV H k v → NVs H ks vs → NVs H (k :: ks) (v :: vs)
end
mutual
theorem NV.to {H H' : Hp} (t : ∀ b xs, H b = some (.tup xs) → H' b = some (.tup xs)) : ∀ (k : NestedKey) (v : V), NV H k v → NV H' k v
  | .none, _, h => by cases h; exact .none
  | .num _, _, h => by cases h; exact .num _
  | .text _, _, h => by cases h; exact .text _
  | .tup ks, _, h => by
    cases h with
    | tup h1 h2 => exact .tup (t _ _ h1) (NVs.to t ks _ h2)
theorem NVs.to {H H' : Hp} (t : ∀ b xs, H b = some (.tup xs) → H' b = some (.tup xs)) : ∀ (ks : List NestedKey) (vs : List V), NVs H ks vs → NVs H' ks vs
  | [], _, h => by cases h; exact .nil
  | k :: ks, _, h => by
    cases h with
    | cons h1 h2 => exact .cons (NV.to t k _ h1) (NVs.to t ks _ h2)
end
section
variable {P : Program} {w : World} {H : Hp} {h : Heap}
mutual
theorem NV.is (ok : HOk P w H h) : ∀ (k : NestedKey) (v : V) (u : Value), NV H k v → RelV v u → NestedIs h k u
  | .none, _, u, n, r => by
    cases n
    have r : u = Value.none := r
    subst r
    exact .none
  | .num _, _, u, n, r => by
    cases n
    obtain ⟨t, r⟩ := r
    subst r
    exact .int _ _
  | .text _, _, u, n, r => by
    cases n
    obtain ⟨t, r⟩ := r
    subst r
    exact .text _ _
  | .tup ks, _, u, n, r => by
    cases n with
    | @tup a vs _ h1 h2 =>
      obtain rfl : u = Value.ref a := r
      obtain ⟨_, its, rv, o, e1, e2, n, e3⟩ := (show ObjOk P w H h a (.tup vs) from ok a _ h1)
      exact .tup e1 e2 e3 (by simpa using NVs.is ok ks vs its h2 rv)
theorem NVs.is (ok : HOk P w H h) : ∀ (ks : List NestedKey) (vs : List V) (us : List Value), NVs H ks vs → Vals vs us → NestedAll h ks us
  | [], _, us, n, r => by
    cases n
    cases r
    exact .nil
  | k :: ks, _, us, n, r => by
    cases n with
    | cons n1 n2 =>
      cases r with
      | cons r1 r2 => exact .cons (NV.is ok k _ _ n1 r1) (NVs.is ok ks _ _ n2 r2)
end
end

/-- what the dict's own object says -/
def Dφ (P : Program) (w : World) (a : Addr) (xs : List (NestedKey × Addr × Value)) : Heap → Prop := fun h =>
  ∃ o es ep, h.get? a = some o ∧ o.ExactDict ∧ o.data = .dict es ep ∧ es.toList = xs.map (entryOfKey (nestedKind P w)) ∧ (xs.map (·.1)).Nodup ∧ xs.length ≤ sizeLine
abbrev Ent (H : Hp) : NestedKey × V → NestedKey × Addr × Value → Prop := fun p q => p.1 = q.1 ∧ NV H p.1 (.ref q.2.1) ∧ p.1.depth ≤ 8 ∧ RelV p.2 q.2.2
/-- at a stands a dict of these keys and values, in their order -/
def DN (P : Program) (w : World) (H : Hp) (a : Addr) (kvs : List (NestedKey × V)) : Prop :=
  (a == sysModules) = false ∧ ∃ xs, H a = some (.ext (Dφ P w a xs)) ∧ Paired (Ent H) kvs xs

theorem DN.to {P : Program} {w : World} {H H' : Hp} {a : Addr} {kvs : List (NestedKey × V)} (d : DN P w H a kvs) (t : ∀ b xs, H b = some (.tup xs) → H' b = some (.tup xs)) (e : H' a = H a) : DN P w H' a kvs := by
  obtain ⟨n, xs, h1, h2⟩ := d
  exact ⟨n, xs, by rw [e]; exact h1, Paired.mapP h2 fun p q z => ⟨z.1, z.2.1.to t, z.2.2⟩⟩

section
variable {H : Hp}
theorem ent_val {kvs : List (NestedKey × V)} {xs : List (NestedKey × Addr × Value)} (r : Paired (Ent H) kvs xs) (k : NestedKey) : RelO (valV kvs k) ((atKey xs k).map (·.2)) := by
  induction r with
  | nil => exact True.intro
  | @cons p q ps qs h t ih =>
    obtain ⟨h1, _, _, h2⟩ := h
    by_cases e : p.1 = k
    · have e' : q.1 = k := h1.symm.trans e
      have b : atKey (q :: qs) k = some q.2 := by simp [atKey, List.find?_cons, e']
      rw [valV_pos e, b]
      exact h2
    · have e' : ¬ q.1 = k := fun z => e (h1.trans z)
      have b : atKey (q :: qs) k = atKey qs k := by simp [atKey, List.find?_cons, e']
      rw [valV_neg e, b]
      exact ih
theorem ent_repl {kvs : List (NestedKey × V)} {xs : List (NestedKey × Addr × Value)} (r : Paired (Ent H) kvs xs) (k : NestedKey) {y : V} {u : Value} (ry : RelV y u) :
    Paired (Ent H) (kvs.map fun kv => if kv.1 = k then (kv.1, y) else kv) (xs.map (putAt k u)) := by
  induction r with
  | nil => exact .nil
  | @cons p q ps qs h t ih =>
    rw [List.map_cons, List.map_cons]
    refine .cons ?_ ih
    obtain ⟨h1, h2, h3, h4⟩ := h
    unfold putAt
    by_cases e : p.1 = k
    · rw [if_pos e, if_pos (h1.symm.trans e)]
      exact ⟨h1, h2, h3, ry⟩
    · rw [if_neg e, if_neg (fun z => e (h1.trans z))]
      exact ⟨h1, h2, h3, h4⟩
theorem ent_put {kvs : List (NestedKey × V)} {xs : List (NestedKey × Addr × Value)} (r : Paired (Ent H) kvs xs) (k : NestedKey) {b : Addr} {y : V} {u : Value} (hb : NV H k (.ref b)) (hd : k.depth ≤ 8) (ry : RelV y u) :
    Paired (Ent H) (putK kvs k y) (storedH xs k b u) := by
  have e : (kvs.any fun kv => decide (kv.1 = k)) = (atKey xs k).isSome := by
    rw [valV_any, (ent_val r k).isSome_eq, Option.isSome_map]
  unfold putK storedH
  rw [e]
  by_cases q : (atKey xs k).isSome = true
  · rw [if_pos q, if_pos q]
    exact ent_repl r k ry
  · rw [if_neg q, if_neg q]
    exact Paired.snoc r ⟨rfl, hb, hd, ry⟩
end

section
variable {P : Program} {w : World} {H : Hp} {h : Heap} {a : Addr} {kvs : List (NestedKey × V)}
theorem ent_is (ok : HOk P w H h) {xs : List (NestedKey × Addr × Value)} (r : Paired (Ent H) kvs xs) : ∀ x ∈ xs, (nestedKind P w).is h x.1 x.2.1 := by
  induction r with
  | nil => intro x hx; exact nomatch hx
  | @cons p q ps qs hq t ih =>
    intro x hx
    rcases List.mem_cons.mp hx with e | hx
    · subst e
      obtain ⟨e1, e2, e3, _⟩ := hq
      rw [e1] at e2 e3
      exact ⟨NV.is ok _ _ _ e2 rfl, e3⟩
    · exact ih x hx
theorem dn_of (ok : HOk P w H h) {xs : List (NestedKey × Addr × Value)} (e : H a = some (.ext (Dφ P w a xs))) (r : Paired (Ent H) kvs xs) : h.DictOfH (nestedKind P w) a xs ∧ xs.length ≤ sizeLine := by
  obtain ⟨⟨o, es, ep, h1, h2, h3, h4, h5, h6⟩, _, _⟩ := ok a _ e
  exact ⟨⟨o, es, ep, h1, h2, h3, h4, ent_is ok r, h5⟩, h6⟩
theorem key_is (ok : HOk P w H h) {k : NestedKey} {b : Addr} (n : NV H k (.ref b)) (hd : k.depth ≤ 8) : (nestedKind P w).is h k b := ⟨NV.is ok _ _ _ n rfl, hd⟩
theorem dn_ok {h' : Heap} {H' : Hp} {xs : List (NestedKey × Addr × Value)} (d : h'.DictOfH (nestedKind P w) a xs) (z : xs.length ≤ sizeLine) : ObjOk P w H' h' a (.ext (Dφ P w a xs)) := by
  obtain ⟨o, es, ep, h1, h2, h3, h4, _, h5⟩ := d
  exact ⟨⟨o, es, ep, h1, h2, h3, h4, h5, z⟩, ⟨o, h1⟩, fun g1 g2 ⟨o, es, ep, k1, k2⟩ st => ⟨o, es, ep, st _ k1, k2⟩⟩
end

section
variable {X : Cx} {o i value : Expr} {td ty tv : TE} {pos pos' : Pos}
/-- {} -/
def tNewN (X : Cx) : TE := fun _ H Q => ∀ p H', H p = none → (∀ b, b ≠ p → H' b = H b) → DN X.prog X.w H' p [] → H' p ≠ none → Q (.ref p) H'
theorem pe_newN : PE X (.Dict [] [] pos) (tNewN X) := ⟨fun pins s σ H Q I h => by
  have nm : (s.heap.objs.size == sysModules) = false := by
    have q := I.big
    refine beq_eq_false_iff_ne.mpr fun e => ?_
    rw [show s.heap.objs.size = sysModules from e] at q
    exact Nat.lt_irrefl _ q
  have new : ObjOk X.prog X.w (upd H s.heap.objs.size (.ext (Dφ X.prog X.w s.heap.objs.size []))) (s.heap.push { cls := .type "dict", data := .dict #[] }) s.heap.objs.size (.ext (Dφ X.prog X.w s.heap.objs.size [])) :=
    dn_ok (Heap.DictOfH.new s.heap) (Nat.zero_le _)
  exact wpAny_Dict_empty ⟨.ref s.heap.objs.size, _, I.laid (a := s.heap.objs.size) (t' := s.toks) (fun _ _ q => Heap.get?_push_of_some _ q) (Nat.le_refl _) new, rfl,
    h _ _ (I.hok.fresh (Nat.le_refl _)) (fun b hb => upd_ne hb) ⟨nm, [], upd_same, .nil⟩ (by rw [upd_same]; exact fun z => nomatch z)⟩⟩

/-- d[k], there; k in d; k not in d -/
def tGetN (X : Cx) (td ty : TE) : TE := fun σ H Q => td σ H fun x H1 => ty σ H1 fun y H2 => ∃ a b kvs k v, x = .ref a ∧ y = .ref b ∧ DN X.prog X.w H2 a kvs ∧ NV H2 k (.ref b) ∧ k.depth ≤ 8 ∧ valV kvs k = some v ∧ Q v H2
def tInN (X : Cx) (neg : Bool) (ty td : TE) : TE := fun σ H Q => ty σ H fun y H1 => td σ H1 fun x H2 => ∃ a b kvs k, x = .ref a ∧ y = .ref b ∧ DN X.prog X.w H2 a kvs ∧ NV H2 k (.ref b) ∧ k.depth ≤ 8 ∧ Q (.bl (if neg then !(valV kvs k).isSome else (valV kvs k).isSome)) H2
theorem room_in1 {A : Around} {P : Program} {w : World} (hu : A.units + 64 < cLine) : (nestedKind P w).room A.in1 := by
  show A.units + 1 + 8 < cLine
  omega
theorem pe_getN (hu : X.A.units + 64 < cLine) (ho : PE X o td) (hi : PE X i ty) (hs : NoSl i) : PE X (.Subscript o i pos) (tGetN X td ty) := by
  refine ⟨fun pins s σ H Q I h => ?_⟩
  refine subD_of PySem.F.slot_dict_getitem.lookup hs (thn (ho.run pins s σ H _ I h) fun u s1 ⟨x, H1, I1, rx, q1⟩ => thn (hi.run pins s1 σ H1 _ I1 q1) fun iv s2 ⟨y, H2, I2, ry, a, b, kvs, k, v, ex, ey, ⟨nm, xs, d1, d2⟩, n, kd, hv, q2⟩ => ?_)
  subst ex ey
  obtain rfl : u = Value.ref a := rx
  obtain rfl : iv = Value.ref b := ry
  obtain ⟨dd, z⟩ := dn_of I2.hok d1 d2
  refine ⟨dd.typeIs, ?_⟩
  obtain ⟨w', hw, rw'⟩ := RelO.some_of (v := v) (o := (atKey xs k).map (·.2)) (by rw [← hv]; exact ent_val d2 k)
  obtain ⟨p, hp, hp2⟩ := Option.map_eq_some_iff.mp hw
  refine wpAny_getItem_heap (room_in1 hu) (key_is I2.hok n kd) dd hp ?_
  rw [hp2]
  exact ⟨v, H2, I2.tok _, rw', q2⟩
theorem pc_inN (hu : X.A.units + 64 < cLine) (hi : PE X i ty) (ho : PE X o td) : PC X .In i o (tInN X false ty td) := by
  refine ⟨fun pins s σ H Q I h => ?_⟩
  refine thn (hi.run pins s σ H _ I h) fun iv s1 ⟨y, H1, I1, ry, q1⟩ => thn (ho.run pins s1 σ H1 _ I1 q1) fun u s2 ⟨x, H2, I2, rx, a, b, kvs, k, ex, ey, ⟨nm, xs, d1, d2⟩, n, kd, q2⟩ => ?_
  subst ex ey
  obtain rfl : u = Value.ref a := rx
  obtain rfl : iv = Value.ref b := ry
  obtain ⟨dd, z⟩ := dn_of I2.hok d1 d2
  refine wpAny_in_heap (room_in1 hu) (key_is I2.hok n kd) nm dd ⟨.bl (atKey xs k).isSome, H2, I2.tok _, rfl, ?_⟩
  have e := (ent_val d2 k).isSome_eq
  rw [Option.isSome_map] at e
  rw [← e]
  exact q2
theorem pc_notinN (hu : X.A.units + 64 < cLine) (hi : PE X i ty) (ho : PE X o td) : PC X .NotIn i o (tInN X true ty td) := by
  refine ⟨fun pins s σ H Q I h => ?_⟩
  refine thn (hi.run pins s σ H _ I h) fun iv s1 ⟨y, H1, I1, ry, q1⟩ => thn (ho.run pins s1 σ H1 _ I1 q1) fun u s2 ⟨x, H2, I2, rx, a, b, kvs, k, ex, ey, ⟨nm, xs, d1, d2⟩, n, kd, q2⟩ => ?_
  subst ex ey
  obtain rfl : u = Value.ref a := rx
  obtain rfl : iv = Value.ref b := ry
  obtain ⟨dd, z⟩ := dn_of I2.hok d1 d2
  refine wpAny_notIn_heap (room_in1 hu) (key_is I2.hok n kd) nm dd ⟨.bl (!(atKey xs k).isSome), H2, I2.tok _, rfl, ?_⟩
  have e := (ent_val d2 k).isSome_eq
  rw [Option.isSome_map] at e
  rw [← e]
  exact q2
/-- d[k] = v -/
def sPutN (X : Cx) (td ty tv : TE) : TS := fun D σ H => tv σ H fun v H1 => td σ H1 fun x H2 => ty σ H2 fun y H3 => ∃ a b kvs k, x = .ref a ∧ y = .ref b ∧ DN X.prog X.w H3 a kvs ∧ NV H3 k (.ref b) ∧ k.depth ≤ 8 ∧ kvs.length < sizeLine ∧
  ∀ H4, (∀ c, c ≠ a → H4 c = H3 c) → DN X.prog X.w H4 a (putK kvs k v) → H4 a ≠ none → D.nx σ H4
theorem ps_putN (hu : X.A.units + 64 < cLine) (ho : PE X o td) (hi : PE X i ty) (hv : PE X value tv) (hs : swapsWith value (some (.Subscript o i pos')) pos.line X.env = pure false) :
    PS X (.Assign [.Subscript o i pos'] value pos) (sPutN X td ty tv) := by
  refine ⟨fun pins s σ H D I h => ?_⟩
  refine wpAny_Assign_Subscript (thn (hv.run pins s σ H _ I h) fun r s1 ⟨v, H1, I1, rv, q1⟩ => thn (ho.run pins s1 σ H1 _ I1 q1) fun u s2 ⟨x, H2, I2, rx, q2⟩ => thn (hi.run pins s2 σ H2 _ I2 q2) fun iv s3 ⟨y, H3, I3, ry, a, b, kvs, k, ex, ey, ⟨nm, xs, d1, d2⟩, n, kd, hl, q3⟩ => ?_) hs
  subst ex ey
  obtain rfl : u = Value.ref a := rx
  obtain rfl : iv = Value.ref b := ry
  obtain ⟨dd, z⟩ := dn_of I3.hok d1 d2
  refine wpAny_setItem_heap (hsz := z) (room_in1 hu) (key_is I3.hok n kd) dd fun h' dd' hs => ?_
  have ep := ent_put d2 k n kd (y := v) (u := r) rv
  have hl' : (storedH xs k b r).length ≤ sizeLine := by
    rw [← Paired.length ep]
    have := length_putK kvs k v
    omega
  have tk : ∀ c ys, H3 c = some (.tup ys) → upd H3 a (.ext (Dφ X.prog X.w a (storedH xs k b r))) c = some (.tup ys) := fun c ys e => by
    rw [upd_ne (ne_of e d1 (fun z => nomatch z))]
    exact e
  have he : ∃ q, h'.get? a = some q := let ⟨q, _, _, hq, _⟩ := dd'; ⟨q, hq⟩
  refine ⟨σ, _, d_write (ob := .ext (Dφ X.prog X.w a (storedH xs k b r))) I3 (by rw [d1]; exact True.intro) hs he (dn_ok dd' hl'), ?_⟩
  exact q3 _ (fun c hc => upd_ne hc) ⟨nm, _, upd_same, Paired.mapP ep fun p q e => ⟨e.1, e.2.1.to tk, e.2.2⟩⟩ (by rw [upd_same]; exact fun z => nomatch z)
/-- len(d) -/
theorem call_lenN : CallR X (.builtin "len") (fun xs H Q => ∃ a kvs, xs = [.ref a] ∧ DN X.prog X.w H a kvs ∧ Q (.int (kvs.length : Int)) H) := by
  intro pins s σ H xs us Q I r h
  obtain ⟨a, kvs, rfl, ⟨nm, ys, d1, d2⟩, q⟩ := h
  obtain ⟨u, rfl, ru⟩ := vals1 r
  obtain rfl : u = Value.ref a := ru
  obtain ⟨dd, z⟩ := dn_of I.hok d1 d2
  have hl : kvs.length = ys.length := Paired.length d2
  have hn := line63
  refine call_len_dictH nm dd (by omega) ⟨.int (kvs.length : Int), H, I.tok _, ⟨s.toks + 1, ?_⟩, q⟩
  rw [hl]
end

/-! ### keys numbered as they come -/
section
variable {κ : Type} [DecidableEq κ]
def dictFrom : Nat → List κ → List (κ × V)
  | _, [] => []
  | n, k :: r => (k, .int (n : Int)) :: dictFrom (n + 1) r
theorem dictFrom_len : ∀ (l : List κ) (n : Nat), (dictFrom n l).length = l.length
  | [], _ => rfl
  | _ :: l, n => congrArg (· + 1) (dictFrom_len l (n + 1))
theorem dictFrom_snoc (k : κ) : ∀ (l : List κ) (n : Nat), dictFrom n (l ++ [k]) = dictFrom n l ++ [(k, .int ((n + l.length : Nat) : Int))]
  | [], n => rfl
  | x :: l, n => by
    show (x, V.int (n : Int)) :: dictFrom (n + 1) (l ++ [k]) = (x, V.int (n : Int)) :: (dictFrom (n + 1) l ++ [(k, .int ((n + (x :: l).length : Nat) : Int))])
    rw [dictFrom_snoc k l (n + 1), List.length_cons, Nat.add_right_comm n 1, Nat.add_assoc]
theorem valV_dictFrom (k : κ) : ∀ (l : List κ) (n : Nat), valV (dictFrom n l) k = if k ∈ l then some (.int ((n + l.idxOf k : Nat) : Int)) else none
  | [], _ => rfl
  | x :: l, n => by
    show valV ((x, V.int (n : Int)) :: dictFrom (n + 1) l) k = _
    by_cases e : x = k
    · subst e
      rw [valV_pos rfl, if_pos List.mem_cons_self]
      simp
    · rw [valV_neg e, valV_dictFrom k l (n + 1)]
      by_cases h : k ∈ l
      · rw [if_pos h, if_pos (List.mem_cons_of_mem _ h), List.idxOf_cons]
        simp only [beq_eq_false_iff_ne.mpr e, cond_false]
        congr 2
        omega
      · rw [if_neg h, if_neg (by simp [h, Ne.symm e])]
theorem putK_dictFrom {k : κ} {l : List κ} {n : Nat} (h : k ∉ l) : putK (dictFrom n l) k (.int ((n + l.length : Nat) : Int)) = dictFrom n (l ++ [k]) := by
  unfold putK
  rw [valV_any, valV_dictFrom, if_neg h, dictFrom_snoc]
  rfl
/-- the different ones, as they come -/
def addSeen (seen : List κ) (m : κ) : List κ := if m ∈ seen then seen else seen ++ [m]
def seenOf (ms : List κ) : List κ := ms.foldl addSeen []
theorem seenOf_snoc (ms : List κ) (m : κ) : seenOf (ms ++ [m]) = addSeen (seenOf ms) m := by
  unfold seenOf
  rw [List.foldl_append]
  rfl
theorem addSeen_mem (seen : List κ) (m : κ) : m ∈ addSeen seen m := by
  unfold addSeen
  split
  · assumption
  · simp
theorem addSeen_pre (seen : List κ) (m : κ) : ∃ t, addSeen seen m = seen ++ t := by
  unfold addSeen
  split
  · exact ⟨[], by simp⟩
  · exact ⟨[m], rfl⟩
theorem foldl_pre (ms : List κ) : ∀ seen : List κ, ∃ t, ms.foldl addSeen seen = seen ++ t := by
  induction ms with
  | nil => exact fun seen => ⟨[], by simp⟩
  | cons m ms ih =>
    intro seen
    obtain ⟨t1, e1⟩ := addSeen_pre seen m
    obtain ⟨t2, e2⟩ := ih (addSeen seen m)
    exact ⟨t1 ++ t2, by rw [List.foldl_cons, e2, e1, List.append_assoc]⟩
theorem mem_seenOf (ms : List κ) : ∀ m, m ∈ seenOf ms ↔ m ∈ ms := by
  have all : ∀ (ms seen : List κ) (m : κ), m ∈ ms.foldl addSeen seen ↔ m ∈ seen ∨ m ∈ ms := by
    intro ms
    induction ms with
    | nil => intro seen m; simp
    | cons x ms ih =>
      intro seen m
      rw [List.foldl_cons, ih]
      unfold addSeen
      by_cases h : x ∈ seen
      · rw [if_pos h, List.mem_cons]
        constructor
        · rintro (h1 | h1)
          · exact .inl h1
          · exact .inr (.inr h1)
        · rintro (h1 | rfl | h1)
          · exact .inl h1
          · exact .inl h
          · exact .inr h1
      · rw [if_neg h, List.mem_append, List.mem_singleton, List.mem_cons, or_assoc]
  intro m
  unfold seenOf
  rw [all]
  simp
theorem seenOf_nodup (ms : List κ) : (seenOf ms).Nodup := by
  have all : ∀ (ms seen : List κ), seen.Nodup → (ms.foldl addSeen seen).Nodup := by
    intro ms
    induction ms with
    | nil => exact fun _ h => h
    | cons x ms ih =>
      intro seen h
      refine ih _ ?_
      unfold addSeen
      split
      · exact h
      · rename_i hx
        rw [List.nodup_append]
        exact ⟨h, by simp, fun a ha b hb => by rw [List.mem_singleton.mp hb]; exact fun e => hx (e ▸ ha)⟩
  exact all ms [] List.nodup_nil
theorem idxOf_pre {seen t : List κ} {m : κ} (h : m ∈ seen) : (seen ++ t).idxOf m = seen.idxOf m := by
  rw [List.idxOf_append, if_pos h]
def numb (ms : List κ) : List Nat := ms.map fun m => (seenOf ms).idxOf m
theorem numb_len (ms : List κ) : (numb ms).length = ms.length := List.length_map _
/-- one more -/
theorem numb_snoc (ms : List κ) (m : κ) : numb (ms ++ [m]) = numb ms ++ [(addSeen (seenOf ms) m).idxOf m] := by
  unfold numb
  rw [List.map_append, seenOf_snoc]
  refine congrArg (· ++ _) (List.map_congr_left fun x hx => ?_)
  obtain ⟨t, e⟩ := addSeen_pre (seenOf ms) m
  rw [e, idxOf_pre ((mem_seenOf ms x).mpr hx)]
theorem seenOf_len (ms : List κ) : (seenOf ms).length ≤ ms.length := by
  have all : ∀ (ms seen : List κ), (ms.foldl addSeen seen).length ≤ seen.length + ms.length := by
    intro ms
    induction ms with
    | nil => intro _; exact Nat.le_refl _
    | cons x ms ih =>
      intro seen
      have h := ih (addSeen seen x)
      have h2 : (addSeen seen x).length ≤ seen.length + 1 := by
        unfold addSeen
        split
        · omega
        · simp
      rw [List.foldl_cons, List.length_cons]
      omega
  have := all ms []
  rw [List.length_nil, Nat.zero_add] at this
  exact this
theorem idxOf_map_inj {α : Type} [DecidableEq α] (f : α → κ) (hf : ∀ a b, f a = f b → a = b) (a : α) : ∀ l : List α, (l.map f).idxOf (f a) = l.idxOf a
  | [] => rfl
  | x :: l => by
    rw [List.map_cons, List.idxOf_cons, List.idxOf_cons, idxOf_map_inj f hf a l]
    by_cases e : x = a
    · rw [e, beq_self_eq_true, beq_self_eq_true]
    · rw [beq_eq_false_iff_ne.mpr e, beq_eq_false_iff_ne.mpr fun z => e (hf _ _ z)]
end
end QD
end

section
set_option Elab.async false
set_option linter.all false
set_option maxRecDepth 100000
set_option maxHeartbeats 2000000
/-! sorted(range(n), key=lambda number: -len(rows[number][0])) -/
namespace QL
open PySem PySem.Spec PyProof.Rows L2

abbrev lamArgs (x : Str) (p : Pos) : Arguments := { posonlyargs := [], args := [{ arg := x, annotation := none, pos := p }], vararg := none, kwonlyargs := [], kw_defaults := [], kwarg := none, defaults := [] }
abbrev lamBody (x rows : Str) (p1 p2 p3 p4 p5 p6 p7 p8 : Pos) : Expr :=
  .UnaryOp .USub (.Call (.Name "len" p1) [.Subscript (.Subscript (.Name rows p2) (.Name x p3) p4) (.Constant (.int 0) 0 p5) p6] [] p7) p8
abbrev lamScope (x rows : Str) : Scope := { kind := .function, names := [(x, .local), (rows, .free), ("len", .globalImplicit)], isGenerator := false, isCoroutine := false, more := [] }

theorem ls_x : (lamScope ("number" : Str) ("standings" : Str)).names.lookup ("number" : Str) = some .local := by decide +kernel
theorem ls_r : (lamScope ("number" : Str) ("standings" : Str)).names.lookup ("standings" : Str) = some .free := by decide +kernel
theorem ls_l : (lamScope ("number" : Str) ("standings" : Str)).names.lookup ("len" : Str) = some .globalImplicit := by decide +kernel
theorem ls_c : ∀ x ∈ (lamScope ("number" : Str) ("standings" : Str)).names, x.2 ≠ .cell := by decide +kernel
theorem isList_keeps {h h' : Heap} {a : Addr} {xs : Array Value} (x : h.IsList a xs) (k : ∀ b o, h.get? b = some o → h'.get? b = some o) : h'.IsList a xs := by
  obtain ⟨o, ho, r⟩ := x
  exact ⟨o, k _ _ ho, r⟩
section
variable {prog : Program} {w : World} {A : Around} {s : Shared} {mg mb : Str → Option Value} {f c c' a t wd : Addr} {q : Str} {cl : List (Str × Addr)} {pm ctv : Value} {p0 p1 p2 p3 p4 p5 p6 p7 p8 : Pos} {its tits wits : List Value} {n : Nat} {tk : Tok}
theorem body_runs {env : Env} {E : Value → Shared → Prop} {Q : Value → Shared → Prop}
    (hk : env.scope.kind = .function) (hgl : env.globals = mainGlobals) (hbl : env.builtins = builtinsNs) (k1 : env.kindOf "number" = some .local) (k2 : env.kindOf "standings" = some .free) (k3 : env.kindOf "len" = some .globalImplicit)
    (hn : s.heap.Ns env.locals fun y => if y = ("number" : Str) then some (.int n tk) else none) (hc : env.cells.lookup ("standings" : Str) = some c) (hcell : s.heap.IsCell c (some (.ref a)))
    (hg : s.heap.Ns mainGlobals mg) (hm : mg ("len" : Str) = none) (hb : s.heap.Ns builtinsNs mb) (hv : mb ("len" : Str) = some (.builtin "len"))
    (hl : s.heap.IsList a its.toArray) (hi : its[n]? = some (.ref t)) (ht : IsTup s.heap t tits.toArray) (hw : tits[0]? = some (.ref wd)) (hwl : s.heap.IsList wd wits.toArray)
    (hz : its.length ≤ sizeLine) (hzt : tits.length ≤ sizeLine) (hz2 : wits.length ≤ sizeLine)
    (hQ : ∀ tk t', Q (.int (-(wits.length : Int)) t') { s with toks := tk }) :
    wpAny (model prog w) A (eval (lamBody ("number" : Str) ("standings" : Str) p1 p2 p3 p4 p5 p6 p7 p8) env) Q E s := by
  have hn63 := line63
  refine UnaryOp_ ?_
  refine wpAny_Call_Name_kw (Calls.Name_function_global hk k3 (Calls.loadGlobal_builtin (by rw [hgl]; exact hg) hm (by rw [hbl]; exact hb) hv ?_))
  refine PyProof.Rows.callWith_builtin1 (args_cons ?_) (by rfl) (by rfl)
  refine Subscript_ (Subscript_ ?_)
  refine wpAny_Name (wpAny_loadName_free hk k2 hc hcell ?_)
  refine wpAny_Name (wpAny_loadName_local (v := .int n tk) hk k1 hn (by rw [if_pos rfl]) ?_)
  have hlt : n < its.length := (List.getElem?_eq_some_iff.mp hi).1
  refine item_listR hl (by omega) (by omega) (x := .ref t) (by simpa using hi) ?_
  refine wpAny_Constant_int ?_
  have h0 : 0 < tits.length := (List.getElem?_eq_some_iff.mp hw).1
  refine subscriptTail_builtinR (x := .ref wd) ht.typeIs slot_tuple_getitem.lookup
    (getItem_tuple (j := 0) (Q := fun r s' => r = .ref wd ∧ _) ht (by omega) (by omega) (by rw [List.size_toArray]; exact seqIndex_of (Int.le_refl 0) (by omega)) (by simpa using hw) ⟨rfl, ?_⟩)
  refine args_nil ?_
  refine Calls.call_len_list hwl (by rw [List.size_toArray]; omega) ?_
  refine neg_int ?_
  rw [List.size_toArray]
  exact hQ _ _

/-- the lambda called -/
theorem lam_call (hf : s.heap.get? f = some (PySem.W.kla_obj "<lambda>" q (lamArgs ("number" : Str) p0) (lamBody ("number" : Str) ("standings" : Str) p1 p2 p3 p4 p5 p6 p7 p8) (lamScope ("number" : Str) ("standings" : Str)) cl pm c' ctv))
    (hcd : s.heap.CodeRec (.ref c') q) (hroom : A.depth < recursionLimit) (hlim : s.heap.NoLimit)
    (hc : cl.lookup ("standings" : Str) = some c) (hcell : s.heap.IsCell c (some (.ref a)))
    (hg : s.heap.Ns mainGlobals mg) (hm : mg ("len" : Str) = none) (hb : s.heap.Ns builtinsNs mb) (hv : mb ("len" : Str) = some (.builtin "len"))
    (hl : s.heap.IsList a its.toArray) (hi : its[n]? = some (.ref t)) (ht : IsTup s.heap t tits.toArray) (hw : tits[0]? = some (.ref wd)) (hwl : s.heap.IsList wd wits.toArray)
    (hz : its.length ≤ sizeLine) (hzt : tits.length ≤ sizeLine) (hz2 : wits.length ≤ sizeLine) :
    wpAny (model prog w) A (call (.ref f) [.int n tk]) (PySem.W.KeyPure (.int (-(wits.length : Int))) s) (fun _ _ => False) s := by
  refine wpAny_call ?_
  refine PySem.W.kla_callFunE hroom hf rfl rfl rfl rfl hcd ?_
  have eb : bindArgs (PySem.W.kla_fn "<lambda>" q (lamArgs ("number" : Str) p0) (lamBody ("number" : Str) ("standings" : Str) p1 p2 p3 p4 p5 p6 p7 p8) (lamScope ("number" : Str) ("standings" : Str)) cl pm (.ref c') ctv) ⟨[.int n tk], []⟩ = pure [(("number" : Str), .int n tk)] := rfl
  rw [eb]
  refine wpAny_pure (wpAny_newFunctionEnv ls_c (fun y hy => by
    rw [List.mem_singleton.mp hy]
    exact ls_x) (fun h₁ hns hsb => ⟨hlim.fresh _ hsb, ?_⟩) rfl)
  have kp : ∀ b o, s.heap.get? b = some o → h₁.get? b = some o := fun b o e => hsb.extBut b o (Nat.ne_of_lt (Heap.lt_size e)) (Heap.get?_push_of_some _ e)
  refine PySem.W.kla_codeExpr ?_
  have hns' : h₁.Ns s.heap.objs.size fun y => if y = ("number" : Str) then some (.int n tk) else none := by
    have e : (fun y => ([(("number" : Str), Value.int n tk)] : List (Str × Value)).reverse.lookup y) = fun y => if y = ("number" : Str) then some (.int n tk) else none := by
      funext y
      show List.lookup y [(("number" : Str), Value.int n tk)] = _
      rw [List.lookup_cons]
      by_cases hy : y = ("number" : Str)
      · rw [if_pos hy, hy]; simp
      · rw [if_neg hy, beq_eq_false_iff_ne.mpr hy]; rfl
    rw [← e]
    exact hns
  refine body_runs (s := { s with heap := h₁, toks := s.toks + 1 }) rfl rfl rfl ls_x ls_r ls_l hns' hc ?_ (hg.keeps kp) hm (hb.keeps kp) hv (isList_keeps hl kp) hi (ht.keeps kp) hw (isList_keeps hwl kp) hz hzt hz2 fun tk2 t2 => ?_
  · obtain ⟨o, ho, hd⟩ := hcell
    exact ⟨o, kp _ _ ho, hd⟩
  · exact ⟨h₁, tk2, rfl, kp, .int _ _⟩
end

section
variable {prog : Program} {w : World} {A : Around} {E : Value → Shared → Prop} {s : Shared} {r f : Addr} {t u v : Tok} {n : Nat}
abbrev IsN (x : Value) (i : Nat) : Prop := ∃ t, x = .int (i : Int) t
theorem each_ints {R : Value → Nat → Prop} : ∀ (l : List Value) (k : Nat), (∀ j x, l[j]? = some x → R x (k + j)) → PySem.W.EachIs R l (List.range' k l.length)
  | [], k, _ => .nil
  | x :: l, k, h => by
    rw [List.length_cons, List.range'_succ]
    refine .cons (by simpa using h 0 x rfl) (each_ints l (k + 1) fun j y e => ?_)
    have := h (j + 1) y (by simpa using e)
    rwa [Nat.add_assoc, Nat.add_comm 1 j]
theorem sorted_range_key {Q : Value → Shared → Prop} (key : Nat → Int) (hh : A.handled = none) (hr : IsRange s.heap r 0 (n : Int) 1 t u v) (hn : n ≤ 100000) (hu : A.units + 10 < cLine)
    (turn : ∀ (i : Nat) (tk : Tok), i < n → ∀ (h : Heap) (tk0 : Nat), (∀ b o, s.heap.get? b = some o → h.get? b = some o) →
      wpAny (model prog w) A.in1.in1 (call (.ref f) [.int i tk]) (PySem.W.KeyPure (.int (key i)) { s with heap := h, toks := tk0 }) (fun _ _ => False) { s with heap := h, toks := tk0 })
    (h : ∀ (out : List Value) (c : Nat) (h1 h' : Heap) (tk : Nat), (∀ b o, s.heap.get? b = some o → h1.get? b = some o) → (∀ b o, h1.get? b = some o → h'.get? b = some o) → h'.get? h1.objs.size = some (seqObj "list" out.toArray c) →
      PySem.W.EachIs IsN out ((List.range n).mergeSort fun i j => decide (key i ≤ key j)) → Q (.ref h1.objs.size) { s with heap := h', toks := tk }) :
    wpAny (model prog w) A (call (.builtin "sorted") [.ref r] [(Str.ofString "key", .ref f)]) Q E s := by
  have hsz := sizeLine_eq
  refine call_function_entry_kw kind_sorted plain_sorted entry_sorted (ksk_s1 _ _) ?_
  unfold Builtin.«sorted»
  refine wpAny_bind (m := checkCount "sorted" 1 1 _) (wpAny_pure ?_)
  have hrs : Builtin.Range.rangeSize 0 (n : Int) 1 = n := by
    unfold Builtin.Range.rangeSize
    simp
    omega
  have hsm : Builtin.Range.small 0 (n : Int) 1 = true := by
    unfold Builtin.Range.small
    rw [hrs]
    simp [Builtin.Range.rangeFitsLong]
    omega
  refine wpAny_bind (collect_range (A := A.in1) hh hr hsm hrs (by omega) fun h1 tk1 acc k1 hi => ?_)
  have hal : acc.toList.length = n := by rw [Array.length_toList]; exact hi.1
  refine wpAny_bind (wpAny_newList ?_ (by rw [hal]; omega))
  have hL : (h1.push (seqObj "list" acc.toList.toArray 0)).get? h1.objs.size = some (seqObj "list" acc.toList.toArray 0) := Heap.get?_push_size _ rfl
  have k2 : ∀ b o, s.heap.get? b = some o → (h1.push (seqObj "list" acc.toList.toArray 0)).get? b = some o := fun b o e => Heap.get?_push_of_some _ (k1 b o e)
  have ebs : PySem.W.EachIs IsN acc.toList (List.range n) := by
    have e := each_ints (R := IsN) acc.toList 0 fun j x hx => ?_
    · rw [hal, ← List.range_eq_range'] at e
      exact e
    · obtain ⟨t, ht⟩ := hi.2 j x (by simpa using hx)
      exact ⟨t, by rw [ht, Int.mul_one, Int.zero_add, Nat.zero_add]⟩
  refine wpAny_bind (wpAny_holding (wpAny_call_entry_kw slot_list_sort ⟨_, hL, rfl⟩ entry_list_sort ?_ (ksk_l1 _ _)))
  rw [ksk_t1]
  have up : ∀ {g : Heap}, PySem.W.KeepsBut h1.objs.size (h1.push (seqObj "list" acc.toList.toArray 0)) g → ∀ b o, h1.get? b = some o → g.get? b = some o := fun {g} kp b o e =>
    kp b o (Nat.ne_of_lt (Heap.lt_size e)) (Heap.get?_push_of_some _ e)
  refine PySem.W.keyH_tree (kz := (List.range n).map fun i => PyData.int (key i)) hL (by rw [List.length_map, List.length_range, hal]) (by rw [hal]; omega) (PySem.W.AllAlike.of fun i j => rfl) (PySem.W.Sortable.others fun i => ⟨(fun z => nomatch z), fun xs z => nomatch z⟩) (fun d hd => ?_)
    (PySem.W.keyH_turns (s := { s with heap := h1.push (seqObj "list" acc.toList.toArray 0), toks := tk1 }) (k := fun i => PyData.int (key i)) ebs fun x i hR hx h2 tk2 kp => ?_) fun h2 tk2 out c kp hD ko => ⟨_, rfl, ?_⟩
  · obtain ⟨i, _, rfl⟩ := List.mem_map.mp hd
    show A.units + 1 + 1 + 0 < cLine
    omega
  · obtain ⟨t, rfl⟩ := hR
    exact turn i t (List.mem_range.mp hx) h2 tk2 fun b o e => up kp b o (k1 b o e)
  · refine wpAny_pure ⟨_, rfl, ?_⟩
    have e := PySem.W.keyedOut_each _ ko ebs
    rw [PySem.W.dataLe_int] at e
    exact h out c h1 h2 tk2 k1 (up kp) hD e
end

section
open LamX
variable {X : Cx}
theorem pe_range1 {p pos : Pos} {e : Expr} {te : TE} (hg : Gl X "range") (hm : X.mg "range" = none) (he : PE X e te) (hs : starEach [e] X.env = (false, eval e X.env) :: starEach [] X.env := by rfl) : PE X (.Call (.Name "range" p) [e] [] pos) (tCB (fun vs H Q => ∃ j : Int, vs = [V.int j] ∧ ∀ q, H q = none → Q (.ref q) (upd H q (.rng 0 j))) (tCons te tNil)) :=
  pe_callTy (T := "range") (fun pins s σ H vs us Q I r h => by
    obtain ⟨j, rfl, q⟩ := h
    obtain ⟨u1, rfl, rj⟩ := vals1 r
    obtain ⟨u, rfl⟩ := rj
    refine call_range_1 ⟨.ref s.heap.objs.size, upd H s.heap.objs.size (.rng 0 j), I.laid (t' := s.toks + 1 + 1) (fun b o e => Heap.get?_push_of_some _ e) (Nat.le_refl _) ?_, rfl, q _ (I.hok.fresh (Nat.le_refl _))⟩
    exact ⟨s.toks, u, s.toks + 1, Heap.get?_push_size _ rfl⟩) hg hm (by decide +kernel) (pa_cons he pa_nil (hs := hs)) (he := hs)

/-- sorted(range(..), key=lambda number: -len(rows[number][0])), the rows in slot i, a cell -/
def tSortLam (T : List (Addr × Str)) (K : PySem.W.Frag) (i : Nat) (ti : TE) : TE := fun σ H Q => ti σ H fun x H1 => ∃ (r : Addr) (n : Nat) (a : Addr) (ts : List Addr) (key : Nat → Int), x = .ref r ∧ H1 r = some (.rng 0 (n : Int)) ∧ n ≤ 100000 ∧ σ[i]? = some (some (.ref a)) ∧
  SqL K H1 a (ts.map V.ref) ∧ ts.length = n ∧ (∀ (j : Nat) (t : Addr), ts[j]? = some t → ∃ (wd : Addr) (more xs : List V), SqT K H1 t (.ref wd :: more) ∧ SqL K H1 wd xs ∧ key j = -(xs.length : Int)) ∧ Tabs T H1 ∧
  ∀ (p : Addr) (H2 : Hp), ExtN H1 H2 → Tabs T H2 → H2 p = none → Q (.ref p) (upd H2 p (.lst (((List.range n).mergeSort fun i j => decide (key i ≤ key j)).map fun (j : Nat) => V.int (j : Int))))
theorem sqL_ext {K : PySem.W.Frag} {H H' : Hp} {a : Addr} {xs : List V} (e : ExtN H H') (h : SqL K H a xs) : SqL K H' a xs := by
  rcases h with (h | ⟨o, h⟩) | h
  · exact .inl (.inl (e _ _ h fun ps z => nomatch z))
  · exact .inl (.inr ⟨o, e _ _ h fun ps z => nomatch z⟩)
  · exact .inr h
theorem sqT_ext {K : PySem.W.Frag} {H H' : Hp} {a : Addr} {xs : List V} (e : ExtN H H') (h : SqT K H a xs) : SqT K H' a xs := by
  rcases h with (h | ⟨o, h⟩) | h
  · exact .inl (.inl (e _ _ h fun ps z => nomatch z))
  · exact .inl (.inr ⟨o, e _ _ h fun ps z => nomatch z⟩)
  · exact .inr h
theorem vals_of_each : ∀ (l : List Value) (ns : List Nat), PySem.W.EachIs IsN l ns → Vals (ns.map fun (j : Nat) => V.int (j : Int)) l
  | _, _, .nil => .nil
  | _, _, .cons h t => .cons h (vals_of_each _ _ t)
theorem pe_sortLam {T : List (Addr × Str)} {i : Nat} {iter : Expr} {ti : TE} {c P : Addr} {k : Nat} {q1 kpos lpos pos p0 p1 p2 p3 p4 p5 p6 p7 p8 : Pos} (hg : Gl X "sorted") (hm : X.mg "sorted" = none) (hmL : X.mg "len" = none) (hi : PE X iter ti)
    (hN : X.N[i]? = some ("standings" : Str)) (hcl : X.env.scope.names.lookup ("standings" : Str) = some .cell) (TB : TabB X.base X.mg c P) (hcode : X.env.code = .ref c) (hmT : (P, X.env.qual ++ "<lambda>") ∈ T) (hu : ∀ p ∈ T, p.1 = P → p.2 = X.env.qual ++ "<lambda>") (hr : Room k X.A)
    (he : backTo pos (starEach [iter] X.env) = (false, eval iter X.env) :: backTo pos (starEach [] X.env) := by rfl) (hpl : (backTo pos (starEach [iter] X.env)).any (·.1) = false := by rfl) :
    PE X (.Call (.Name "sorted" q1) [iter] [⟨some "key", .Lambda (lamArgs ("number" : Str) p0) (lamBody ("number" : Str) ("standings" : Str) p1 p2 p3 p4 p5 p6 p7 p8) (lamScope ("number" : Str) ("standings" : Str)) lpos, kpos⟩] pos) (tSortLam T X.K i ti) := by
  refine ⟨fun pins s σ H Q I h => ?_⟩
  refine wpAny_Call_Name_kw (ld_blt I hg hm (u := .builtin "sorted") (by decide +kernel) ?_)
  refine PyProof.Rows.callWith_kw ?_ he hpl rfl rfl
  rw [he]
  refine Calls.spliced_cons (thn (hi.run pins s σ H _ I h) fun u s1 ⟨x, H1, I1, r1, q1⟩ => ?_)
  obtain ⟨r, n, a, ts, key, rfl, hrg, hn, hσ, hS, hlen, hrows, hT, q⟩ := q1
  obtain rfl : u = Value.ref r := r1
  refine Calls.spliced_nil ?_
  show wpAny _ _ (evalAll [do let v ← eval (.Lambda (lamArgs ("number" : Str) p0) (lamBody ("number" : Str) ("standings" : Str) p1 p2 p3 p4 p5 p6 p7 p8) (lamScope ("number" : Str) ("standings" : Str)) lpos) X.env; standAt pos; pure v]) _ _ s1
  have hfree : ∀ y ∈ (lamScope ("number" : Str) ("standings" : Str)).names, y.2 = NameKind.free → ∃ c, X.env.cells.lookup y.1 = some c := fun y hy e => by
    have hy1 : y = (("standings" : Str), NameKind.free) := by
      rcases List.mem_cons.mp hy with rfl | hy
      · cases e
      · rcases List.mem_cons.mp hy with rfl | hy
        · rfl
        · rw [List.mem_singleton.mp hy] at e
          cases e
    rw [hy1]
    exact I1.ok.has _ (.inl hcl)
  refine wpAny_evalAll_cons (wpAny_bind (lam_make2 I1 TB hcode hmT hu hT rfl hfree fun f c' pm ctv H2 s2 I2 e2 T2 hf hfn hfr hco => wpAny_bind (wpAny_standAt (wpAny_pure (wpAny_evalAll_nil ?_)))))
  -- the def's cell of rows
  have hcell : ∃ c2, X.env.cells.lookup ("standings" : Str) = some c2 ∧ s2.heap.IsCell c2 (some (.ref a)) := by
    obtain ⟨m, hn2, hl⟩ := I2.loc
    obtain ⟨w2, rv, l⟩ := hl i ("standings" : Str) _ hN hσ (.inr (.inl hcl))
    obtain rfl : w2 = Value.ref a := rv
    rcases l with ⟨hk, _⟩ | ⟨_, c2, h1, h2⟩
    · have hk : X.env.scope.names.lookup ("standings" : Str) = some .local := hk
      rw [hcl] at hk
      cases hk
    · exact ⟨c2, h1, h2⟩
  obtain ⟨c2, hc2, hcell⟩ := hcell
  have hcl2 : (cloFrom X.env.cells (lamScope ("number" : Str) ("standings" : Str)).names []).lookup ("standings" : Str) = some c2 := NdefX.clo_has hfree (by decide +kernel) hc2
  obtain ⟨mb, hb1, hb2⟩ := I2.mod.blt
  have rg2 : H2 r = some (.rng 0 (n : Int)) := e2 _ _ hrg fun ps z => nomatch z
  obtain ⟨t1, t2, t3, hrr⟩ := (show ObjOk X.prog X.w H2 s2.heap r (.rng 0 (n : Int)) from I2.hok r _ rg2)
  obtain ⟨its, rv, pl, hz⟩ := I2.list (sqL_ext e2 hS)
  have hun := hr.un
  have hdp := hr.dp
  refine sorted_range_key (f := f) key hr.hd hrr hn (by omega) (fun j tk hj h0 tk0 k0 => ?_) fun out cc h1 h' tk k1 k2 hD hE => ?_
  · have hjt : j < ts.length := by omega
    obtain ⟨wd, more, xs, ht, hw, hkey⟩ := hrows j ts[j] (by simp [hjt])
    obtain ⟨tits, rvt, plt, hzt⟩ := I2.tuple (sqT_ext e2 ht)
    obtain ⟨wits, rvw, plw, hzw⟩ := I2.list (sqL_ext e2 hw)
    have hlw := rvw.length
    have hlt := rvt.length
    have hli := rv.length
    obtain ⟨u1, hu1, ru1⟩ := rv.get (i := j) (x := .ref ts[j]) (by rw [List.getElem?_map]; simp [hjt])
    obtain rfl : u1 = Value.ref ts[j] := ru1
    obtain ⟨u2, hu2, ru2⟩ := rvt.get (i := 0) (x := .ref wd) rfl
    obtain rfl : u2 = Value.ref wd := ru2
    rw [hkey, hlw]
    refine lam_call (s := { s2 with heap := h0, toks := tk0 }) (k0 _ _ hf) ?_ (by show X.A.depth < recursionLimit; omega) (I2.nolimit.keeps k0) hcl2 ?_ ((I2.mod.glob.keeps I2.bk).keeps k0) hmL ((hb1.keeps I2.bk).keeps k0) ((hb2 _ (by decide)).trans (by decide +kernel))
      (isList_keeps pl.isList k0) hu1 (plt.keeps k0) hu2 (isList_keeps plw.isList k0) (by omega) (by omega) (by omega)
    · obtain ⟨c3, oc, vs, t, z1, z2, z3, z4⟩ := NdefX.codeO_at I2.hok hco
      exact ⟨c3, oc, vs, t, z1, k0 _ _ z2, z3, z4⟩
    · obtain ⟨o, ho, hd⟩ := hcell
      exact ⟨o, k0 _ _ ho, hd⟩
  · have I3 : Inv X pins σ H2 { s2 with heap := h1 } := I2.kept (t' := s2.toks) k1
    have hl2 : (((List.range n).mergeSort fun i j => decide (key i ≤ key j)).map fun (j : Nat) => V.int (j : Int)).length ≤ sizeLine := by
      rw [List.length_map, List.length_mergeSort, List.length_range, sizeLine_eq]
      omega
    have I4 := I3.laid (a := h1.objs.size) (t' := tk) (h' := h') (o := .lst (((List.range n).mergeSort fun i j => decide (key i ≤ key j)).map fun (j : Nat) => V.int (j : Int))) k2 (Nat.le_refl _) ⟨hl2, out, cc, vals_of_each _ _ hE, hD⟩
    exact ⟨.ref h1.objs.size, _, I4, rfl, q _ H2 e2 T2 (I3.hok.fresh (Nat.le_refl _))⟩
theorem pe_sortLamK (K : PySem.W.Frag) {T : List (Addr × Str)} {i : Nat} {iter : Expr} {ti : TE} {c P : Addr} {k : Nat} {q1 kpos lpos pos p0 p1 p2 p3 p4 p5 p6 p7 p8 : Pos} (hg : Gl X "sorted") (hm : X.mg "sorted" = none) (hmL : X.mg "len" = none) (hi : PE X iter ti)
    (hN : X.N[i]? = some ("standings" : Str)) (hcl : X.env.scope.names.lookup ("standings" : Str) = some .cell) (TB : TabB X.base X.mg c P) (hcode : X.env.code = .ref c) (hmT : (P, X.env.qual ++ "<lambda>") ∈ T) (hu : ∀ p ∈ T, p.1 = P → p.2 = X.env.qual ++ "<lambda>") (hr : Room k X.A) (hK : X.K = K := by rfl)
    (he : backTo pos (starEach [iter] X.env) = (false, eval iter X.env) :: backTo pos (starEach [] X.env) := by rfl) (hpl : (backTo pos (starEach [iter] X.env)).any (·.1) = false := by rfl) :
    PE X (.Call (.Name "sorted" q1) [iter] [⟨some "key", .Lambda (lamArgs ("number" : Str) p0) (lamBody ("number" : Str) ("standings" : Str) p1 p2 p3 p4 p5 p6 p7 p8) (lamScope ("number" : Str) ("standings" : Str)) lpos, kpos⟩] pos) (tSortLam T K i ti) :=
  hK ▸ pe_sortLam hg hm hmL hi hN hcl TB hcode hmT hu hr he hpl
end
end QL
end

section
set_option Elab.async false
set_option linter.all false
set_option maxRecDepth 100000
/-! words, ways, standings in the abstract heap; what is kept -/
namespace QB
open PySem PySem.Spec PyProof.Rows L2 LamX

/-! ### text facts as data -/
/-- a def of the text: where it stands, how it binds -/
structure DefAt (K : PySem.W.Frag) (x qual : Str) (st : Stmt) (ps : List Str) : Type where
  a : Addr
  fd : FuncData
  F : Fun K x qual st a fd
  b : Binds K fd ps []
/-- .. a def of the module, by its name -/
structure TopAt (K : PySem.W.Frag) (mg : Str → Option Value) (x : Str) (st : Stmt) (ps : List Str) : Type extends DefAt K x x st ps where
  mg : mg x = some (.ref a)

section
variable {X : Cx}
theorem pe_gc {x : Str} {v : V} {pos : Pos} (hg : Gl X x) (h : ∃ u, X.mg x = some u ∧ RelV v u) (hd : (x == ("__debug__" : Str)) = false := by decide) : PE X (.Name x pos) (tC v) := by
  obtain ⟨u, hm, r⟩ := h
  exact pe_glob hg hm r hd
end
theorem bo_isinstance : bootBuiltins "isinstance" = some (.builtin "isinstance") := by decide +kernel
theorem bo_abs : bootBuiltins "abs" = some (.builtin "abs") := by decide +kernel
theorem bo_max : bootBuiltins "max" = some (.builtin "max") := by decide +kernel
theorem bo_min : bootBuiltins "min" = some (.builtin "min") := by decide +kernel
theorem bo_sum : bootBuiltins "sum" = some (.builtin "sum") := by decide +kernel
theorem bo_all : bootBuiltins "all" = some (.builtin "all") := by decide +kernel
theorem bo_any : bootBuiltins "any" = some (.builtin "any") := by decide +kernel
theorem bo_len : bootBuiltins "len" = some (.builtin "len") := by decide +kernel
theorem bo_sorted : bootBuiltins "sorted" = some (.builtin "sorted") := by decide +kernel
theorem bo_list : bootBuiltins "list" = some (.type "list") := by decide +kernel
theorem bo_tuple : bootBuiltins "tuple" = some (.type "tuple") := by decide +kernel
theorem bo_int : bootBuiltins "int" = some (.type "int") := by decide +kernel
theorem bo_str : bootBuiltins "str" = some (.type "str") := by decide +kernel
theorem bo_bool : bootBuiltins "bool" = some (.type "bool") := by decide +kernel
theorem bo_range : bootBuiltins "range" = some (.type "range") := by decide +kernel
theorem bo_enumerate : bootBuiltins "enumerate" = some (.type "enumerate") := by decide +kernel
theorem bo_zip : bootBuiltins "zip" = some (.type "zip") := by decide +kernel
theorem bo_dict : bootBuiltins "dict" = some (.type "dict") := by decide +kernel
theorem bo_set : bootBuiltins "set" = some (.type "set") := by decide +kernel
theorem hu64 {A : Around} {k : Nat} (hr : Room k A) : A.units + 64 < cLine := hr.units

/-! ### rules with the written part named -/
section
variable {X : Cx} (K : PySem.W.Frag)
theorem ix_listK (h : X.K = K := by rfl) : IxR X (rIxL K) := h ▸ ix_list
theorem ix_tupK (h : X.K = K := by rfl) : IxR X (rIxT K) := h ▸ ix_tup
def rLen (K : PySem.W.Frag) : List V → Hp → VK → Prop := fun xs H Q => ∃ p ys, xs = [.ref p] ∧ (SqL K H p ys ∨ SqT K H p ys) ∧ Q (.int ys.length) H
theorem call_lenK (h : X.K = K := by rfl) : CallR X (.builtin "len") (rLen K) := h ▸ call_len_seq
def rListOf (K : PySem.W.Frag) : List V → Hp → VK → Prop := fun xs H Q => ∃ p ys, xs = [.ref p] ∧ (SqL K H p ys ∨ SqT K H p ys) ∧ ∀ l, H l = none → Q (.ref l) (upd H l (.lst ys))
theorem call_listK (h : X.K = K := by rfl) : CallR X (.type "list") (rListOf K) := h ▸ call_list_of
def rTupOf (K : PySem.W.Frag) : List V → Hp → VK → Prop := fun xs H Q => ∃ p ys, xs = [.ref p] ∧ ((SqL K H p ys ∧ ∀ l, H l = none → Q (.ref l) (upd H l (.tup ys))) ∨ (SqT K H p ys ∧ Q (.ref p) H))
theorem call_tupleK (h : X.K = K := by rfl) : CallR X (.type "tuple") (rTupOf K) := h ▸ call_tuple_of
theorem call_isiK (h : X.K = K := by rfl) : CallR X (.builtin "isinstance") (rIsi K) := h ▸ call_isi
theorem cr_allK (hc : X.calm = true) (h : X.K = K := by rfl) : CallR X (.builtin "all") (rAll K) := h ▸ cr_all hc
theorem cr_anyK (hc : X.calm = true) (h : X.K = K := by rfl) : CallR X (.builtin "any") (rAny K) := h ▸ cr_any hc
theorem cr_maxK (hc : X.calm = true) (h : X.K = K := by rfl) : CallR X (.builtin "max") (rMax K) := h ▸ cr_max hc
theorem mt_indexK (h : X.K = K := by rfl) : MtR X "list.index" (rIndex K) := h ▸ mt_index
theorem op_inK (h : X.K = K := by rfl) : OpR X (compareOp .In) (rIn K false) := h ▸ op_in_seq
theorem op_notInK (h : X.K = K := by rfl) : OpR X (compareOp .NotIn) (rIn K true) := h ▸ op_notIn_seq
theorem op_eqDK (hu : X.A.units + 64 < cLine) (h : X.K = K := by rfl) : OpR X (compareOp .Eq) (rEqD K) := h ▸ op_eqD hu
theorem op_neDK (hu : X.A.units + 64 < cLine) (h : X.K = K := by rfl) : OpR X (compareOp .NotEq) (rNeD K) := h ▸ op_neD hu
theorem sl_listK (h : X.K = K := by rfl) : SlR X (rSlL K) := h ▸ sl_list
theorem pi_listK {tg l : Expr} {tl : TE} (he : PE X l tl) (h : X.K = K := by rfl) : PI X tg l (iList K tl) := h ▸ pi_list he
theorem pe_fldK {e : Expr} {ta : TE} {f : Str} {pos : Pos} (he : PE X e ta) (hb : attributeBase e f X.env (eval e X.env) = eval e X.env) (h : X.K = K := by rfl) : PE X (.Attribute e f pos) (tFld K ta f) := h ▸ pe_fld he hb
theorem pe_bmK {o e : Expr} {es : List Expr} {to : TE} {t : TA} {name : Str} {apos cpos : Pos} {T id : String} {r : V → List V → Hp → VK → Prop} (pa : PlainAttrs T) (slot : Slot T name id)
    (hty : typeOf (.builtin id) = pure (.type "method_descriptor")) (hm : MtR X id r) (ho : PE X o to) (ha : PA X (e :: es) t) (h : X.K = K := by rfl) (hbase : attributeBase o name X.env (eval o X.env) = eval o X.env := by rfl)
    (hfew : ((backTo cpos (starEach (e :: es) X.env)).all (fun x => !x.1) && (backToKw cpos (keywordEach [] X.env)).all (fun x => x.1.isSome) && decide ((e :: es).length + ([] : List Keyword).length + (if ([] : List Keyword).isEmpty then 0 else 1) < 30)) = true := by rfl)
    (hline : (apos.endLine == cpos.line) = true := by rfl) (hs : starEach (e :: es) X.env = (false, eval e X.env) :: starEach es X.env := by rfl) (hp : (backTo cpos (starEach es X.env)).any (·.1) = false := by rfl) :
    PE X (.Call (.Attribute o name apos) (e :: es) [] cpos) (tBM K T r to t) := h ▸ pe_bm pa slot hty hm ho ha hbase hfew hline hs hp
theorem pe_bm0K {o : Expr} {to : TE} {name : Str} {apos cpos : Pos} {T id : String} {r : V → List V → Hp → VK → Prop} (pa : PlainAttrs T) (slot : Slot T name id)
    (hty : typeOf (.builtin id) = pure (.type "method_descriptor")) (hm : MtR X id r) (ho : PE X o to) (h : X.K = K := by rfl) (hbase : attributeBase o name X.env (eval o X.env) = eval o X.env := by rfl)
    (hline : (apos.endLine == cpos.line) = true := by rfl) : PE X (.Call (.Attribute o name apos) [] [] cpos) (tBM0 K T r to) := h ▸ pe_bm0 pa slot hty hm ho hbase hline
theorem pi_enumK {e : Expr} {ta : TA} {p pos tpos : Pos} {elts : List Expr} {kk : Nat} (hg : Gl X "enumerate") (hm : X.mg "enumerate" = none) (ha : PA X [e] ta) (h : X.K = K := by rfl) (hs : starEach [e] X.env = [(false, eval e X.env)] := by rfl) :
    PI X (.Tuple elts kk tpos) (.Call (.Name "enumerate" p) [e] [] pos) (iEnum K ta) := h ▸ pi_enum hg hm ha hs
theorem pi_zipK {e e2 : Expr} {ta : TA} {p pos tpos : Pos} {elts : List Expr} {kk : Nat} (hg : Gl X "zip") (hm : X.mg "zip" = none) (ha : PA X [e, e2] ta) (h : X.K = K := by rfl)
    (hs : starEach [e, e2] X.env = (false, eval e X.env) :: starEach [e2] X.env := by rfl) (hpl : (backTo pos (starEach [e2] X.env)).any (·.1) = false := by rfl) :
    PI X (.Tuple elts kk tpos) (.Call (.Name "zip" p) [e, e2] [] pos) (iZip K ta) := h ▸ pi_zip hg hm ha hs hpl
end

/-! ### what stays: all but the tables of code objects, which grow -/
def Ext (T : List (Addr × Str)) (H H' : Hp) : Prop := ExtN H H' ∧ (Tabs T H → Tabs T H')
section
variable {T : List (Addr × Str)} {H H' H'' : Hp} {p : Addr} {o : HO} {K : PySem.W.Frag}
theorem Ext.refl : Ext T H H := ⟨ExtN.refl H, fun t => t⟩
theorem Ext.trans (a : Ext T H H') (b : Ext T H' H'') : Ext T H H'' := ⟨a.1.trans b.1, fun t => b.2 (a.2 t)⟩
theorem Ext.of (a : Same H H') : Ext T H H' := ⟨ExtN.of a, fun t => t.ext a⟩
theorem same_new (h : H p = none) : Same H (upd H p o) := fun b u e => by
  rw [upd_ne (ne_of_none e h)]
  exact e
theorem Same.new (a : Same H H') (h : H' p = none) : Same H (upd H' p o) := fun b u e => by
  have e' := a b u e
  rw [upd_ne (ne_of_none e' h)]
  exact e'
/-- an object that was not there at H may change -/
theorem Same.mut (a : Same H H') (h : H p = none) : Same H (upd H' p o) := fun b u e => by
  rw [upd_ne (ne_of_none e h)]
  exact a b u e
theorem Ext.new (h : H p = none) : Ext T H (upd H p o) := .of (same_new h)
theorem Ext.get {u : HO} (a : Ext T H H') (h : H p = some u) (n : ∀ ps, u ≠ .tbl ps := by intro _ z; cases z) : H' p = some u := a.1 _ _ h n
theorem Ext.lst {xs : List V} (a : Ext T H H') (h : H p = some (.lst xs)) : H' p = some (.lst xs) := a.1 _ _ h fun _ z => nomatch z
theorem Ext.tup {xs : List V} (a : Ext T H H') (h : H p = some (.tup xs)) : H' p = some (.tup xs) := a.1 _ _ h fun _ z => nomatch z
/-- not there, but for a table -/
def Fresh (H : Hp) (p : Addr) : Prop := ∀ o, H p = some o → ∃ ps, o = .tbl ps
theorem Fresh.of (h : H p = none) : Fresh H p := fun o e => by
  rw [h] at e
  cases e
theorem Ext.fresh (a : Ext T H H') (h : Fresh H' p) : Fresh H p := fun o e => by
  by_cases hu : ∃ ps, o = .tbl ps
  · exact hu
  · exact h o (a.1 _ _ e fun ps z => hu ⟨ps, z⟩)
theorem Ext.free (a : Ext T H H') (h : H' p = none) : Fresh H p := a.fresh (.of h)
theorem Fresh.ne {q : Addr} {u : HO} (f : Fresh H p) (h : H q = some u) (n : ∀ ps, u ≠ .tbl ps := by intro _ z; cases z) : q ≠ p := fun e => by
  rw [e] at h
  obtain ⟨ps, z⟩ := f _ h
  exact n ps z
/-- what may be written without harm to the tables -/
def Plain : HO → Prop
  | .lst _ => True
  | .ins _ _ _ => True
  | .dK _ => True
  | _ => False
theorem Plain.tbl {o : HO} (h : Plain o) : ∀ ps, o ≠ .tbl ps := fun ps z => by
  rw [z] at h
  exact h
theorem Plain.code {o : HO} (h : Plain o) (c : Addr) (q : Str) : o ≠ CodeO c q := fun z => by
  rw [z] at h
  exact h
theorem tabs_mut {u : HO} (t : Tabs T H) (h : H p = some u) (hu : Plain u) : Tabs T (upd H p o) := fun q hq => by
  obtain ⟨ps, h1, h2, h3⟩ := t q hq
  refine ⟨ps, by rw [upd_ne (ne_of h1 h (hu.tbl ps).symm)]; exact h1, h2, fun pos cv hc => ?_⟩
  obtain ⟨c, e1, e2⟩ := h3 pos cv hc
  exact ⟨c, e1, by rw [upd_ne (ne_of e2 h (hu.code c _).symm)]; exact e2⟩
theorem Ext.mut {u : HO} (a : Ext T H H') (f : Fresh H p) (h : H' p = some u) (hu : Plain u := by trivial) : Ext T H (upd H' p o) :=
  ⟨fun b x e n => by
    rw [upd_ne (f.ne e n)]
    exact a.1 _ _ e n, fun t => tabs_mut (a.2 t) h hu⟩
theorem Ext.new' (a : Ext T H H') (h : H' p = none) : Ext T H (upd H' p o) := a.trans (.new h)
theorem Ext.sqL {a : Addr} {xs : List V} (e : Ext T H H') (h : SqL K H a xs) : SqL K H' a xs := QL.sqL_ext e.1 h
theorem Ext.sqT {a : Addr} {xs : List V} (e : Ext T H H') (h : SqT K H a xs) : SqT K H' a xs := QL.sqT_ext e.1 h
end

/-! ### words, ways, standings -/
abbrev Word := List Str
abbrev Ways := List (Option Nat)
abbrev Std := Word × Ways
abbrev Form := List Std
def vS (w : Word) : List V := w.map V.str
def vW : Option Nat → V
  | none => .non
  | some n => .int (n : Int)
def vWs (ws : Ways) : List V := ws.map vW
section
variable (H : Hp)
def WordAt (a : Addr) (w : Word) : Prop := H a = some (.lst (vS w))
def WaysAt (a : Addr) (w : Ways) : Prop := H a = some (.lst (vWs w))
def StdAt (t : Addr) (s : Std) : Prop := ∃ a b, H t = some (.tup [.ref a, .ref b]) ∧ WordAt H a s.1 ∧ WaysAt H b s.2
def FormAt (p : Addr) (F : Form) : Prop := ∃ ts : List Addr, H p = some (.lst (ts.map V.ref)) ∧ Paired (StdAt H) ts F
end
section
variable {T : List (Addr × Str)} {K : PySem.W.Frag} {H H' : Hp} {a p : Addr} {w : Word} {ws : Ways} {F : Form} {s : Std}
theorem Ext.word (e : Ext T H H') (h : WordAt H a w) : WordAt H' a w := e.lst h
theorem Ext.ways (e : Ext T H H') (h : WaysAt H a ws) : WaysAt H' a ws := e.lst h
theorem Ext.std (e : Ext T H H') (h : StdAt H a s) : StdAt H' a s := by
  obtain ⟨x, y, h1, h2, h3⟩ := h
  exact ⟨x, y, e.tup h1, e.word h2, e.ways h3⟩
theorem Ext.form (e : Ext T H H') (h : FormAt H p F) : FormAt H' p F := by
  obtain ⟨ts, h1, h2⟩ := h
  exact ⟨ts, e.lst h1, L2.Paired.mapP h2 fun t s h => e.std h⟩
theorem Same.word (e : Same H H') (h : WordAt H a w) : WordAt H' a w := e _ _ h
theorem Same.ways (e : Same H H') (h : WaysAt H a ws) : WaysAt H' a ws := e _ _ h
theorem Same.std (e : Same H H') (h : StdAt H a s) : StdAt H' a s := (Ext.of (T := []) e).std h
theorem Same.form (e : Same H H') (h : FormAt H p F) : FormAt H' p F := (Ext.of (T := []) e).form h
theorem paired_get {α β : Type} {R : α → β → Prop} : ∀ {l : List α} {m : List β} {i : Nat} {b : β}, Paired R l m → m[i]? = some b → ∃ a, l[i]? = some a ∧ R a b
  | _, _, _, _, .nil, e => by simp at e
  | _, _, 0, _, .cons h t, e => by
    simp at e
    subst e
    exact ⟨_, rfl, h⟩
  | _, _, i + 1, _, .cons h t, e => by
    obtain ⟨a, h1, h2⟩ := paired_get (i := i) t (by simpa using e)
    exact ⟨a, by simpa using h1, h2⟩
theorem paired_get' {α β : Type} {R : α → β → Prop} : ∀ {l : List α} {m : List β} {i : Nat} {a : α}, Paired R l m → l[i]? = some a → ∃ b, m[i]? = some b ∧ R a b
  | _, _, _, _, .nil, e => by simp at e
  | _, _, 0, _, .cons h t, e => by
    simp at e
    subst e
    exact ⟨_, rfl, h⟩
  | _, _, i + 1, _, .cons h t, e => by
    obtain ⟨a, h1, h2⟩ := paired_get' (i := i) t (by simpa using e)
    exact ⟨a, by simpa using h1, h2⟩
/-- the k-th standing: its tuple, its lists -/
theorem FormAt.at {k : Nat} (h : FormAt H p F) (e : F[k]? = some s) : ∃ (vs : List V) (t a b : Addr), H p = some (.lst vs) ∧ vs.length = F.length ∧ vs[k]? = some (.ref t) ∧ H t = some (.tup [.ref a, .ref b]) ∧ WordAt H a s.1 ∧ WaysAt H b s.2 := by
  obtain ⟨ts, h1, h2⟩ := h
  obtain ⟨t, ht, x, y, h3, h4, h5⟩ := paired_get h2 e
  exact ⟨_, t, x, y, h1, by rw [List.length_map, Paired.length h2], by rw [List.getElem?_map, ht]; rfl, h3, h4, h5⟩
theorem FormAt.lst (h : FormAt H p F) : ∃ vs : List V, H p = some (.lst vs) ∧ vs.length = F.length := by
  obtain ⟨ts, h1, h2⟩ := h
  exact ⟨_, h1, by rw [List.length_map, Paired.length h2]⟩
theorem vS_get {k : Nat} {x : Str} (h : w[k]? = some x) : (vS w)[k]? = some (.str x) := by
  unfold vS
  rw [List.getElem?_map, h]
  rfl
theorem vWs_get {k : Nat} {x : Option Nat} (h : ws[k]? = some x) : (vWs ws)[k]? = some (vW x) := by
  unfold vWs
  rw [List.getElem?_map, h]
  rfl
theorem vS_len : (vS w).length = w.length := List.length_map _
theorem vWs_len : (vWs ws).length = ws.length := List.length_map _
theorem vS_flat : (vS w).all flatV = true := by
  rw [List.all_eq_true]
  intro x hx
  obtain ⟨s, _, rfl⟩ := List.mem_map.mp hx
  rfl
theorem eqV_str (x y : Str) : eqV (.str x) (.str y) = decide (x = y) := by
  by_cases h : x = y
  · subst h
    simp [eqV]
  · simp [eqV, h]
theorem inV_word (x : Str) : inV (.str x) (vS w) = decide (x ∈ w) := by
  unfold inV vS
  induction w with
  | nil => rfl
  | cons y w ih =>
    rw [List.map_cons, List.any_cons, ih, eqV_str]
    by_cases h : y = x
    · subst h
      simp
    · simp [h, Ne.symm h]
theorem vW_is (x : Option Nat) : decide (vW x = .non) = x.isNone := by
  cases x <;> rfl
theorem vS_append (v w : Word) : vS v ++ vS w = vS (v ++ w) := (List.map_append ..).symm
theorem cut_drop (xs : List V) (k : Nat) : cutV xs (some (k : Int)) none = xs.drop k := by
  unfold cutV
  rw [HT.sIx_nat, HT.sIx_none]
  by_cases h : k ≤ xs.length
  · rw [Nat.min_eq_left h, List.take_of_length_le (by rw [List.length_drop]; exact Nat.le_refl _)]
  · rw [Nat.min_eq_right (by omega), List.drop_eq_nil_of_le (Nat.le_refl _), List.drop_eq_nil_of_le (by omega), List.take_nil]
theorem cut_take (xs : List V) (k : Nat) : cutV xs none (some (k : Int)) = xs.take k := by
  unfold cutV
  rw [HT.sIx_nat, HT.sIx_none, List.drop_zero, Nat.sub_zero]
  by_cases h : k ≤ xs.length
  · rw [Nat.min_eq_left h]
  · rw [Nat.min_eq_right (by omega), List.take_of_length_le (Nat.le_refl _), List.take_of_length_le (by omega)]
theorem vS_drop (w : Word) (k : Nat) : (vS w).drop k = vS (w.drop k) := List.map_drop.symm
theorem vS_take (w : Word) (k : Nat) : (vS w).take k = vS (w.take k) := List.map_take.symm
theorem idxOf_min {tags : Word} {t : Str} : ∀ {m : Nat}, m < tags.idxOf t → ∀ {x}, tags[m]? = some x → x ≠ t := by
  induction tags with
  | nil => intro m h x e; simp at e
  | cons y tags ih =>
    intro m h x e z
    subst z
    rw [List.idxOf_cons] at h
    by_cases hy : y == x
    · rw [hy] at h
      simp at h
    · rw [Bool.not_eq_true] at hy
      rw [hy] at h
      simp at h
      cases m with
      | zero =>
        simp at e
        subst e
        simp at hy
      | succ m => exact ih (m := m) (by omega) (by simpa using e) rfl
/-- tags.index(tag), there -/
theorem index_word {tags : Word} {t : Str} {Q : VK} (h : WordAt H a tags) (ht : t ∈ tags) (q : Q (.int (tags.idxOf t : Nat)) H) : rIndex K (.ref a) [.str t] H Q := by
  have hlt : tags.idxOf t < tags.length := List.idxOf_lt_length_of_mem ht
  refine ⟨a, vS tags, .str t, tags.idxOf t, .str t, rfl, rfl, SqL.of h, rfl, vS_flat, vS_get ?_, by rw [eqV_str]; simp, fun m z hm hz => ?_, q⟩
  · rw [List.getElem?_eq_getElem hlt, List.getElem_idxOf]
  · have hm' : m < tags.length := Nat.lt_trans hm hlt
    have e : tags[m]? = some tags[m] := by simp [hm']
    rw [vS_get e] at hz
    cases hz
    rw [eqV_str]
    exact decide_eq_false (idxOf_min hm e)

/-! ### comprehensions whose elements leave all as it was -/
theorem sz_le {n : Nat} (h : n ≤ 100000) : n ≤ sizeLine := Nat.le_trans h (by decide)
theorem sz_lt {n : Nat} (h : n < 100000) : n < sizeLine := Nat.lt_of_lt_of_le h (by decide)
theorem lc_filter {J : It} {n : Nat} {G : Hp → Prop} {Y : Nat → Hp → V → Hp → Prop} (w : Walk J n G Y) {g : TG} {tt : TT} {te : TE} {vs : List Nat} {σ : L2.St} {H1 : Hp} {D : Addr} {Qd : Hp → Prop} (hD : H1 D = none) (hn : n ≤ 100000)
    (hG : ∀ H, Same H1 H → G H) (f : Nat → V) (p : Nat → Bool)
    (hs : ∀ (i : Nat) (x : V) (H H' : Hp) (k : VK) (N : Hp → Prop), i < n → Same H1 H → Y i H x H' → (p i = true → ∀ H4, Same H H4 → k (f i) H4) → (p i = false → ∀ H4, Same H H4 → N H4) →
      g x (wipe σ vs) H' fun σ2 H2 => wipe σ2 vs = wipe σ vs ∧ tt σ2 H2 fun b H3 => if b = true then te σ2 H3 k else N H3)
    (hd : ∀ H, Same H1 H → H D = some (.lst (((List.range n).filter p).map f)) → Qd H) :
    ∃ W : Nat → Nat → Hp → Prop, (∃ m, W 0 m (upd H1 D (.lst []))) ∧ ∀ i m H, W i m H →
      (J.stop i H ∧ Qd H) ∨ (J.go i H ∧ ∃ Nx : Hp → Prop, (∀ H', Nx H' → ∃ m', m' < m ∧ W (i + 1) m' H') ∧ ∀ x H', J.yld i H x H' → g x (wipe σ vs) H' fun σ2 H2 => wipe σ2 vs = wipe σ vs ∧ tt σ2 H2 fun b H3 =>
        if b = true then te σ2 H3 fun y H4 => ∃ acc, H4 D = some (.lst acc) ∧ acc.length < sizeLine ∧ Nx (upd H4 D (.lst (acc ++ [y]))) else Nx H3) := by
  refine lc_it w (fun i H => Same H1 H ∧ H D = some (.lst (((List.range i).filter p).map f))) ⟨Same.mut (Same.refl H1) hD, upd_same⟩ (fun i H _ h => hG H h.1) (fun i x H H' hi h y => ?_) fun H h => hd H h.1 h.2
  obtain ⟨s1, e⟩ := h
  refine hs i x H H' _ _ hi s1 y (fun hp H4 s4 => ⟨_, s4 _ _ e, ?_, Same.mut (s1.trans s4) hD, ?_⟩) (fun hp H4 s4 => ⟨s1.trans s4, ?_⟩)
  · have h1 := List.length_filter_le p (List.range i)
    rw [List.length_range] at h1
    rw [List.length_map]
    exact sz_lt (by omega)
  · rw [upd_same, List.range_succ, List.filter_append, List.map_append, List.filter_cons, if_pos hp]
    rfl
  · rw [s4 _ _ e, List.range_succ, List.filter_append, List.map_append, List.filter_cons, if_neg (by rw [hp]; decide)]
    simp
theorem lc_map {J : It} {n : Nat} {G : Hp → Prop} {Y : Nat → Hp → V → Hp → Prop} (w : Walk J n G Y) {g : TG} {te : TE} {vs : List Nat} {σ : L2.St} {H1 : Hp} {D : Addr} {Qd : Hp → Prop} (hD : H1 D = none) (hn : n ≤ 100000)
    (hG : ∀ H, Same H1 H → G H) (f : Nat → V)
    (hs : ∀ (i : Nat) (x : V) (H H' : Hp) (k : VK), i < n → Same H1 H → Y i H x H' → (∀ H4, Same H H4 → k (f i) H4) →
      g x (wipe σ vs) H' fun σ2 H2 => wipe σ2 vs = wipe σ vs ∧ te σ2 H2 k)
    (hd : ∀ H, Same H1 H → H D = some (.lst ((List.range n).map f)) → Qd H) :
    ∃ W : Nat → Nat → Hp → Prop, (∃ m, W 0 m (upd H1 D (.lst []))) ∧ ∀ i m H, W i m H →
      (J.stop i H ∧ Qd H) ∨ (J.go i H ∧ ∃ Nx : Hp → Prop, (∀ H', Nx H' → ∃ m', m' < m ∧ W (i + 1) m' H') ∧ ∀ x H', J.yld i H x H' → g x (wipe σ vs) H' fun σ2 H2 => wipe σ2 vs = wipe σ vs ∧ tYes σ2 H2 fun b H3 =>
        if b = true then te σ2 H3 fun y H4 => ∃ acc, H4 D = some (.lst acc) ∧ acc.length < sizeLine ∧ Nx (upd H4 D (.lst (acc ++ [y]))) else Nx H3) := by
  refine lc_it w (fun i H => Same H1 H ∧ H D = some (.lst ((List.range i).map f))) ⟨Same.mut (Same.refl H1) hD, upd_same⟩ (fun i H _ h => hG H h.1) (fun i x H H' hi h y => ?_) fun H h => hd H h.1 h.2
  obtain ⟨s1, e⟩ := h
  have q := hs i x H H' (fun y H4 => ∃ acc, H4 D = some (.lst acc) ∧ acc.length < sizeLine ∧ (Same H1 (upd H4 D (.lst (acc ++ [y]))) ∧ (upd H4 D (.lst (acc ++ [y]))) D = some (.lst ((List.range (i + 1)).map f)))) hi s1 y
    fun H4 s4 => ⟨_, s4 _ _ e, by rw [List.length_map, List.length_range]; exact sz_lt (by omega), Same.mut (s1.trans s4) hD, by rw [upd_same, List.range_succ, List.map_append]; rfl⟩
  exact q
/-- a list by its places -/
theorem range_map_get {α : Type} (f : Nat → V) (l : List α) (h : α → V) (e : ∀ (i : Nat) (x : α), l[i]? = some x → f i = h x) : (List.range l.length).map f = l.map h := by
  refine List.ext_getElem? fun i => ?_
  rw [List.getElem?_map, List.getElem?_map]
  by_cases hi : i < l.length
  · rw [List.getElem?_range hi, List.getElem?_eq_getElem hi]
    exact congrArg some (e i _ (List.getElem?_eq_getElem hi))
  · rw [List.getElem?_eq_none (by rw [List.length_range]; omega), List.getElem?_eq_none (by omega)]
    rfl
theorem filter_range {α : Type} (q : α → Bool) (h : α → V) (p : Nat → Bool) (f : Nat → V) (l : List α) (e : ∀ (i : Nat) (x : α), l[i]? = some x → p i = q x ∧ f i = h x) : ((List.range l.length).filter p).map f = (l.filter q).map h := by
  have all : ∀ n, n ≤ l.length → ((List.range n).filter p).map f = ((l.take n).filter q).map h := by
    intro n
    induction n with
    | zero => intro _; rfl
    | succ n ih =>
      intro hn
      have ha : l[n]? = some (l[n]'(by omega)) := List.getElem?_eq_getElem (by omega)
      obtain ⟨e1, e2⟩ := e n _ ha
      rw [List.range_succ, List.filter_append, List.map_append, List.take_succ, ha, List.filter_append, List.map_append, ih (by omega), List.filter_cons, e1]
      by_cases hq : q (l[n]'(by omega)) = true
      · rw [if_pos hq]
        simp [hq, e2]
      · rw [if_neg hq]
        simp [hq]
  have := all l.length (Nat.le_refl _)
  rwa [List.take_length] at this

/-! ### what loops give -/
theorem walk_enumW : Walk (Ite K a) w.length (fun H => WordAt H a w) (fun i H v H' => ∃ (t : Addr) (x : Str), w[i]? = some x ∧ H t = none ∧ v = .ref t ∧ H' = upd H t (.tup [.int (i : Nat), .str x])) := by
  have e := walk_enum (K := K) (a := a) (xs := vS w)
  rw [vS_len] at e
  refine e.mono (fun H h => SqL.of h) fun i H v H' hi _ y => ?_
  obtain ⟨t, x, z, h1, h2, h3, h4, h5⟩ := y
  cases h4
  have h5 : (vS w)[i]? = some z := h5
  have hw : w[i]? = some w[i] := by simp [hi]
  rw [vS_get hw] at h5
  cases h5
  exact ⟨t, _, hw, h2, h1, h3⟩
theorem walk_listW : Walk (Itl K a) w.length (fun H => WordAt H a w) (fun i H v H' => ∃ x : Str, w[i]? = some x ∧ v = .str x ∧ H' = H) := by
  have e := walk_list (K := K) (a := a) (xs := vS w)
  rw [vS_len] at e
  refine e.mono (fun H h => SqL.of h) fun i H v H' hi _ y => ?_
  obtain ⟨h1, h2⟩ := y
  have hw : w[i]? = some w[i] := by simp [hi]
  rw [vS_get hw] at h2
  cases h2
  exact ⟨_, hw, rfl, h1⟩
theorem walk_listWs : Walk (Itl K a) ws.length (fun H => WaysAt H a ws) (fun i H v H' => ∃ x : Option Nat, ws[i]? = some x ∧ v = vW x ∧ H' = H) := by
  have e := walk_list (K := K) (a := a) (xs := vWs ws)
  rw [vWs_len] at e
  refine e.mono (fun H h => SqL.of h) fun i H v H' hi _ y => ?_
  obtain ⟨h1, h2⟩ := y
  have hw : ws[i]? = some ws[i] := by simp [hi]
  rw [vWs_get hw] at h2
  cases h2
  exact ⟨_, hw, rfl, h1⟩
/-- a form's standings, the heap as it was -/
theorem walk_listF : Walk (Itl K p) F.length (fun H => FormAt H p F) (fun i H v H' => ∃ (s : Std) (t a b : Addr), F[i]? = some s ∧ v = .ref t ∧ H' = H ∧ H t = some (.tup [.ref a, .ref b]) ∧ WordAt H a s.1 ∧ WaysAt H b s.2) := by
  refine ⟨fun i H hi h => ?_, fun H h => ?_, fun i H v H' hi h y => ?_⟩
  · obtain ⟨vs, t, a, b, h1, h2, h3, _⟩ := FormAt.at h (show F[i]? = some F[i] by simp [hi])
    exact ⟨vs, _, SqL.of h1, h3⟩
  · obtain ⟨vs, h1, h2⟩ := FormAt.lst h
    exact ⟨_, SqL.of h1, by rw [h2]; exact Nat.le_refl _⟩
  · have e : F[i]? = some F[i] := by simp [hi]
    obtain ⟨vs, t, a, b, h1, h2, h3, h4, h5, h6⟩ := FormAt.at h e
    obtain ⟨y1, y2⟩ := y
    have := y2 vs (SqL.of h1)
    rw [h3] at this
    cases this
    exact ⟨_, t, a, b, e, rfl, y1, h4, h5, h6⟩
end

/-! ### a form of one's own: new lists throughout, no list twice -/
abbrev Tri := Addr × Addr × Addr
def inner (L : List Tri) : List Addr := L.flatMap fun x => [x.2.1, x.2.2]
structure NewL (H0 H : Hp) (L : List Tri) (F : Form) : Prop where
  at_ : Paired (fun (x : Tri) (s : Std) => H x.1 = some (.tup [.ref x.2.1, .ref x.2.2]) ∧ WordAt H x.2.1 s.1 ∧ WaysAt H x.2.2 s.2) L F
  new : ∀ x ∈ L, Fresh H0 x.1 ∧ Fresh H0 x.2.1 ∧ Fresh H0 x.2.2
  nd : (inner L).Nodup
structure NewF (H0 H : Hp) (p : Addr) (L : List Tri) (F : Form) : Prop where
  lst : H p = some (.lst (L.map fun x => V.ref x.1))
  all : NewL H0 H L F
  new : Fresh H0 p
  out : p ∉ inner L
section
variable {T : List (Addr × Str)} {H0 H H' : Hp} {L : List Tri} {F : Form} {p t a b : Addr} {s : Std}
theorem NewL.nil : NewL H0 H [] [] := ⟨.nil, (fun _ h => nomatch h), List.nodup_nil⟩
theorem NewL.ext (n : NewL H0 H L F) (e : Ext T H H') : NewL H0 H' L F :=
  ⟨L2.Paired.mapP n.at_ fun _ _ h => ⟨e.tup h.1, e.word h.2.1, e.ways h.2.2⟩, n.new, n.nd⟩
theorem NewL.same (n : NewL H0 H L F) (e : Same H H') : NewL H0 H' L F := n.ext (Ext.of (T := []) e)
theorem NewF.ext (n : NewF H0 H p L F) (e : Ext T H H') : NewF H0 H' p L F := ⟨e.lst n.lst, n.all.ext e, n.new, n.out⟩
theorem NewF.same (n : NewF H0 H p L F) (e : Same H H') : NewF H0 H' p L F := n.ext (Ext.of (T := []) e)
theorem NewL.old {H1 : Hp} (n : NewL H H' L F) (e : Ext T H1 H) : NewL H1 H' L F := ⟨n.at_, fun x hx => ⟨e.fresh (n.new x hx).1, e.fresh (n.new x hx).2.1, e.fresh (n.new x hx).2.2⟩, n.nd⟩
theorem NewF.old {H1 : Hp} (n : NewF H H' p L F) (e : Ext T H1 H) : NewF H1 H' p L F := ⟨n.lst, n.all.old e, e.fresh n.new, n.out⟩
theorem mem_inner {q : Addr} (h : q ∈ inner L) : ∃ x ∈ L, q = x.2.1 ∨ q = x.2.2 := by
  obtain ⟨x, hx, hq⟩ := List.mem_flatMap.mp h
  refine ⟨x, hx, ?_⟩
  simpa using hq
theorem NewL.there (n : NewL H0 H L F) {q : Addr} (h : q ∈ inner L) : ∃ xs, H q = some (.lst xs) := by
  obtain ⟨x, hx, hq⟩ := mem_inner h
  obtain ⟨i, hi, e⟩ := List.mem_iff_getElem.mp hx
  obtain ⟨s, _, h1, h2, h3⟩ := paired_get' n.at_ (show L[i]? = some x by rw [List.getElem?_eq_getElem hi, e])
  rcases hq with rfl | rfl
  · exact ⟨_, h2⟩
  · exact ⟨_, h3⟩
theorem inner_append (L M : List Tri) : inner (L ++ M) = inner L ++ inner M := List.flatMap_append
theorem NewL.snoc (n : NewL H0 H L F) (e : Same H H') (ha : H a = none) (hb : H b = none) (hab : a ≠ b) (h1 : H' t = some (.tup [.ref a, .ref b])) (h2 : WordAt H' a s.1) (h3 : WaysAt H' b s.2) (f1 : Fresh H0 t) (f2 : Fresh H0 a) (f3 : Fresh H0 b) :
    NewL H0 H' (L ++ [(t, a, b)]) (F ++ [s]) := by
  refine ⟨Paired.snoc (n.same e).at_ ⟨h1, h2, h3⟩, fun x hx => ?_, ?_⟩
  · rcases List.mem_append.mp hx with hx | hx
    · exact n.new x hx
    · rw [List.mem_singleton.mp hx]
      exact ⟨f1, f2, f3⟩
  · rw [inner_append, List.nodup_append]
    refine ⟨n.nd, ?_, fun x hx y hy => ?_⟩
    · show [a, b].Nodup
      simp [hab]
    · obtain ⟨xs, hxs⟩ := n.there hx
      have hy : y = a ∨ y = b := by simpa [inner] using hy
      rcases hy with rfl | rfl
      · exact ne_of_none hxs ha
      · exact ne_of_none hxs hb
theorem NewL.form (n : NewL H0 H L F) (h : H p = some (.lst (L.map fun x => V.ref x.1))) : FormAt H p F := by
  refine ⟨L.map (·.1), by rw [List.map_map]; exact h, ?_⟩
  have e := n.at_
  clear h n
  induction e with
  | nil => exact .nil
  | cons h _ ih => exact .cons ⟨_, _, h.1, h.2.1, h.2.2⟩ ih
theorem NewF.form (n : NewF H0 H p L F) : FormAt H p F := n.all.form n.lst
theorem NewL.len (n : NewL H0 H L F) : L.length = F.length := Paired.length n.at_
theorem NewF.mk' (n : NewL H0 H L F) (h : H p = some (.lst (L.map fun x => V.ref x.1))) (f : Fresh H0 p) (o : p ∉ inner L) : NewF H0 H p L F := ⟨h, n, f, o⟩
/-- its k-th standing -/
theorem NewL.get (n : NewL H0 H L F) {k : Nat} (e : F[k]? = some s) : ∃ x : Tri, L[k]? = some x ∧ H x.1 = some (.tup [.ref x.2.1, .ref x.2.2]) ∧ WordAt H x.2.1 s.1 ∧ WaysAt H x.2.2 s.2 := paired_get n.at_ e
/-- another list is written -/
theorem paired_mem {α β : Type} {R S : α → β → Prop} : ∀ {l : List α} {m : List β}, Paired R l m → (∀ a b, a ∈ l → R a b → S a b) → Paired S l m
  | _, _, .nil, _ => .nil
  | _, _, .cons h t, f => .cons (f _ _ List.mem_cons_self h) (paired_mem t fun a b ha hr => f a b (List.mem_cons_of_mem _ ha) hr)
theorem NewL.upd {xs ys : List V} (n : NewL H0 H L F) (h : H p = some (.lst xs)) (o : p ∉ inner L) : NewL H0 (upd H p (.lst ys)) L F := by
  refine ⟨paired_mem n.at_ fun x s hx r => ?_, n.new, n.nd⟩
  have h1 : x.2.1 ≠ p := fun e => o (List.mem_flatMap.mpr ⟨x, hx, by simp [e]⟩)
  have h2 : x.2.2 ≠ p := fun e => o (List.mem_flatMap.mpr ⟨x, hx, by simp [e]⟩)
  exact ⟨(upd_ne (ne_of r.1 h (fun z => nomatch z))).trans r.1, Eq.trans (upd_ne h1) r.2.1, Eq.trans (upd_ne h2) r.2.2⟩
theorem NewL.updD {kvs : List (Key × V)} {u : HO} (n : NewL H0 H L F) (h : H p = some (.dK kvs)) : NewL H0 (L2.upd H p u) L F := by
  refine ⟨paired_mem n.at_ fun x s hx r => ?_, n.new, n.nd⟩
  exact ⟨(upd_ne (ne_of r.1 h (fun z => nomatch z))).trans r.1, Eq.trans (upd_ne (ne_of r.2.1 h (fun z => nomatch z))) r.2.1, Eq.trans (upd_ne (ne_of r.2.2 h (fun z => nomatch z))) r.2.2⟩
theorem not_inner_snoc (o : p ∉ inner L) (ha : p ≠ a) (hb : p ≠ b) : p ∉ inner (L ++ [(t, a, b)]) := by
  rw [inner_append]
  simp [inner] at o ⊢
  exact ⟨o, ha, hb⟩
/-- the ways of one standing are written anew -/
theorem NewL.setWays : ∀ {L : List Tri} {F : Form} {k : Nat} {x : Tri} {s : Std} {ws : Ways}, NewL H0 H L F → L[k]? = some x → F[k]? = some s → NewL H0 (L2.upd H x.2.2 (.lst (vWs ws))) L (F.set k (s.1, ws))
  | [], _, k, _, _, _, _, e, _ => by simp at e
  | y :: L, [], k, _, _, _, _, _, e => by simp at e
  | y :: L, f :: F, 0, x, s, ws, n, e1, e2 => by
    simp at e1 e2
    subst e1 e2
    obtain ⟨p, nw, nd⟩ := n
    cases p with
    | cons h t =>
      have nd' : (y.2.1 :: y.2.2 :: inner L).Nodup := nd
      rw [List.nodup_cons, List.nodup_cons] at nd'
      obtain ⟨d1, d2, d3⟩ := nd'
      have rest := NewL.upd (p := y.2.2) (ys := vWs ws) ⟨t, fun z hz => nw z (List.mem_cons_of_mem _ hz), d3⟩ h.2.2 d2
      refine ⟨?_, nw, nd⟩
      rw [List.set_cons_zero]
      exact .cons ⟨(upd_ne (ne_of h.1 h.2.2 (fun z => nomatch z))).trans h.1, Eq.trans (upd_ne fun z => d1 (by rw [z]; exact List.mem_cons_self)) h.2.1, upd_same⟩ rest.at_
  | y :: L, f :: F, k + 1, x, s, ws, n, e1, e2 => by
    rw [List.getElem?_cons_succ] at e1 e2
    obtain ⟨p, nw, nd⟩ := n
    cases p with
    | cons h t =>
      have nd' : (y.2.1 :: y.2.2 :: inner L).Nodup := nd
      rw [List.nodup_cons, List.nodup_cons] at nd'
      obtain ⟨d1, d2, d3⟩ := nd'
      have n' : NewL H0 H L F := ⟨t, fun z hz => nw z (List.mem_cons_of_mem _ hz), d3⟩
      have rest := NewL.setWays (ws := ws) n' e1 e2
      obtain ⟨z, hz, hz1, hz2, hz3⟩ := n'.get e2
      rw [e1] at hz
      cases hz
      have hx : x.2.2 ∈ inner L := List.mem_flatMap.mpr ⟨x, List.mem_of_getElem? e1, by simp⟩
      refine ⟨?_, nw, nd⟩
      rw [List.set_cons_succ]
      exact .cons ⟨(upd_ne (ne_of h.1 hz3 (fun z => nomatch z))).trans h.1, Eq.trans (upd_ne fun z => d1 (by rw [z]; exact List.mem_cons_of_mem _ hx)) h.2.1, Eq.trans (upd_ne fun z => d2 (by rw [z]; exact hx)) h.2.2⟩ rest.at_
end

/-! ### words compared -/
def txts (w : Word) : List PyData := w.map .str
theorem dpAll_word (K : PySem.W.Frag) (H : Hp) : ∀ w : Word, DpAll K H (vS w) (txts w)
  | [] => .nil
  | _ :: w => .cons (.str _) (dpAll_word K H w)
theorem dp_word {K : PySem.W.Frag} {H : Hp} {a : Addr} {w : Word} (h : WordAt H a w) : Dp K H (.ref a) (.list (txts w)) := .lst (SqL.of h) (dpAll_word K H w)
theorem eqvAll_txts : ∀ v w : Word, PyData.eqvAll (txts v) (txts w) = decide (v = w)
  | [], [] => rfl
  | [], _ :: _ => rfl
  | _ :: _, [] => rfl
  | x :: v, y :: w => by
    show (x == y && PyData.eqvAll (txts v) (txts w)) = _
    rw [eqvAll_txts v w]
    by_cases h : x = y
    · subst h
      by_cases h2 : v = w <;> simp [h2]
    · simp [h]
theorem layAll_txts : ∀ w : Word, (∀ t ∈ w, PyData.strOk t = true) → PyData.canLayAll0 (txts w) = true
  | [], _ => rfl
  | x :: w, h => by
    show (PyData.strOk x && PyData.canLayAll0 (txts w)) = true
    rw [h x List.mem_cons_self, layAll_txts w fun t ht => h t (List.mem_cons_of_mem _ ht)]
    rfl
theorem depthAll_txts : ∀ w : Word, PyData.depthAll (txts w) = 0
  | [] => rfl
  | x :: w => by
    show max 0 (PyData.depthAll (txts w)) = 0
    rw [depthAll_txts w]
    rfl
theorem shaped_word {w : Word} (h : ∀ t ∈ w, PyData.strOk t = true) : SeqAt.shaped (.list (txts w)) = true := by
  unfold SeqAt.shaped
  rw [Bool.and_eq_true]
  refine ⟨layAll_txts w h, decide_eq_true ?_⟩
  show PyData.depthAll (txts w) + 1 ≤ 64
  rw [depthAll_txts]
  decide
theorem eq_words {K : PySem.W.Frag} {H : Hp} {a b : Addr} {v w : Word} {Q : VK} (hv : WordAt H a v) (hw : WordAt H b w) (ov : ∀ t ∈ v, PyData.strOk t = true) (ow : ∀ t ∈ w, PyData.strOk t = true) (q : Q (.bl (decide (v = w))) H) : rEqD K (.ref a) (.ref b) H Q :=
  ⟨_, _, dp_word hv, dp_word hw, shaped_word ov, shaped_word ow, by
    show Q (.bl (PyData.eqvAll (txts v) (txts w))) H
    rw [eqvAll_txts]
    exact q⟩
theorem ne_words {K : PySem.W.Frag} {H : Hp} {a b : Addr} {v w : Word} {Q : VK} (hv : WordAt H a v) (hw : WordAt H b w) (ov : ∀ t ∈ v, PyData.strOk t = true) (ow : ∀ t ∈ w, PyData.strOk t = true) (q : Q (.bl (!decide (v = w))) H) : rNeD K (.ref a) (.ref b) H Q :=
  ⟨_, _, dp_word hv, dp_word hw, shaped_word ov, shaped_word ow, by
    show Q (.bl (!PyData.eqvAll (txts v) (txts w))) H
    rw [eqvAll_txts]
    exact q⟩

/-! ### a def whose code object is told -/
structure FunC (K : PySem.W.Frag) (x qual : Str) (st : Stmt) (f : Addr) (fd : FuncData) (c : Addr) : Prop where
  ex : ∃ (oc : Value) (od : Option Addr) (kV doc pm : Value) (an : Option Addr) (ct : Value) (osl : Array (Option Value)),
    fd = PySem.W.fnOf x qual (defArgs st) (defBody st) (defScope st) .none kV doc pm an (.ref c) ct ∧ K.lookup f = some ⟨oc, od, .func fd, osl⟩ ∧ PySem.W.codeIn K (.ref c) qual = true
theorem FunC.ok {P : Program} {w : World} {K : PySem.W.Frag} {mg : Str → Option Value} {base : Heap} {x qual : Str} {st : Stmt} {f c : Addr} {fd : FuncData} {N ps : List Str} {k : Nat} {sp : Sp} (F : FunC K x qual st f fd c) (S : FnScope N ps (defScope st)) (len : ∀ vs H Q E, sp vs H Q E → vs.length = ps.length)
    (hbody : ∀ (A : Around) (outer : List Env) (s : Shared) (H : Hp) (vs : List V) (Q : VK) (E : XK), Room k (A.deeper (envOfC qual (defScope st) s.heap.objs.size f (.ref c))) → sp vs H Q E →
      ∃ t, PSs (cxOf CX0 P w K mg base N qual (defScope st) f (.ref c) A outer s H E).nox (defBody st) t ∧ t { nx := fun _ H' => Q .non H', rt := Q } (L2.start N vs) H) : FnOk P w K mg base CX0 (k + 1) f fd ps sp := by
  obtain ⟨oc, od, kV, doc, pm, an, ct, osl, rfl, lk, hcd⟩ := F.ex
  exact fn_of lk hcd S len fun A outer s H vs Q E hr hsp => by
    obtain ⟨t, h, q⟩ := hbody A outer s H vs Q E hr hsp
    exact ⟨t, h.nox, q⟩
end QB
end

section
set_option linter.all false
set_option autoImplicit false
/-! mirrors: plain functions over words and standings -/
namespace QM
open PySem QB

def ixOf (tags : List Str) (t : Str) : Nat := tags.idxOf t
/-- the way of a standing for a tag -/
def way (tags : List Str) (s : Std) (t : Str) : Option Nat := (s.2[ixOf tags t]?).join
def wayAt (tags : List Str) (F : Form) (at_ : Nat) (t : Str) : Option Nat := (F[at_]?).bind fun s => way tags s t
def walkFrom (tags : List Str) (F : Form) : Nat → Nat → Word → Nat × Nat
  | at_, k, [] => (at_, k)
  | at_, k, t :: w => match wayAt tags F at_ t with
    | none => (at_, k)
    | some b => walkFrom tags F b (k + 1) w
def walk (tags : List Str) (F : Form) (w : Word) : Nat × Nat := walkFrom tags F 0 0 w
def wordOf (F : Form) (k : Nat) : Word := ((F[k]?).map (·.1)).getD []
def make (tags : List Str) (F : Form) (w : Word) : Word := wordOf F (walk tags F w).1 ++ w.drop (walk tags F w).2

structure Good (tags : List Str) (F : Form) : Prop where
  pos : 0 < F.length
  len : ∀ s ∈ F, s.2.length = tags.length
  to : ∀ s ∈ F, ∀ n, some n ∈ s.2 → n < F.length
  small : F.length ≤ 5000
theorem Good.way_lt {tags : List Str} {F : Form} (g : Good tags F) {s : Std} (hs : s ∈ F) {k n : Nat} (h : s.2[k]? = some (some n)) : n < F.length := g.to s hs n (List.mem_of_getElem? h)
theorem mem_of {F : Form} {k : Nat} {s : Std} (h : F[k]? = some s) : s ∈ F := List.mem_of_getElem? h
theorem Good.ways {tags : List Str} {F : Form} (g : Good tags F) {k : Nat} {s : Std} (h : F[k]? = some s) : s.2.length = tags.length := g.len s (mem_of h)
/-- the way of a standing for one of the tags -/
theorem Good.way {tags : List Str} {F : Form} (g : Good tags F) {k : Nat} {s : Std} {t : Str} (h : F[k]? = some s) (ht : t ∈ tags) : s.2[tags.idxOf t]? = some (way tags s t) := by
  have hlt : tags.idxOf t < s.2.length := by rw [g.ways h]; exact List.idxOf_lt_length_of_mem ht
  unfold QM.way ixOf
  rw [List.getElem?_eq_getElem hlt]
  rfl
theorem wayAt_of {tags : List Str} {F : Form} {k : Nat} {s : Std} {t : Str} (h : F[k]? = some s) : wayAt tags F k t = way tags s t := by
  unfold wayAt
  rw [h]
  rfl
theorem Good.wayLt {tags : List Str} {F : Form} (g : Good tags F) {k n : Nat} {s : Std} {t : Str} (h : F[k]? = some s) (ht : t ∈ tags) (e : QM.way tags s t = some n) : n < F.length := by
  have q := g.way h ht
  rw [e] at q
  exact g.way_lt (mem_of h) q
theorem wordOf_of {F : Form} {k : Nat} {s : Std} (h : F[k]? = some s) : wordOf F k = s.1 := by
  unfold wordOf
  rw [h]
  rfl
theorem walkFrom_lt {tags : List Str} {F : Form} (g : Good tags F) : ∀ (w : Word) (at_ k : Nat), at_ < F.length → (∀ t ∈ w, t ∈ tags) → (walkFrom tags F at_ k w).1 < F.length ∧ k ≤ (walkFrom tags F at_ k w).2 ∧ (walkFrom tags F at_ k w).2 ≤ k + w.length
  | [], at_, k, h, _ => ⟨h, Nat.le_refl _, Nat.le_refl _⟩
  | t :: w, at_, k, h, ht => by
    unfold walkFrom
    cases e : wayAt tags F at_ t with
    | none => exact ⟨h, Nat.le_refl _, Nat.le_add_right _ _⟩
    | some b =>
      have hF : F[at_]? = some F[at_] := by simp [h]
      have hb : b < F.length := g.wayLt hF (ht t List.mem_cons_self) (by rw [← wayAt_of hF]; exact e)
      obtain ⟨h1, h2, h3⟩ := walkFrom_lt g w b (k + 1) hb fun x hx => ht x (List.mem_cons_of_mem _ hx)
      show (walkFrom tags F b (k + 1) w).1 < F.length ∧ k ≤ (walkFrom tags F b (k + 1) w).2 ∧ (walkFrom tags F b (k + 1) w).2 ≤ k + (t :: w).length
      rw [List.length_cons]
      exact ⟨h1, by omega, by omega⟩
theorem walk_lt {tags : List Str} {F : Form} (g : Good tags F) {w : Word} (h : ∀ t ∈ w, t ∈ tags) : (walk tags F w).1 < F.length ∧ (walk tags F w).2 ≤ w.length := by
  obtain ⟨h1, _, h3⟩ := walkFrom_lt g w 0 0 g.pos h
  exact ⟨h1, by rw [Nat.zero_add] at h3; exact h3⟩

/-! ### classes of standings -/
open L2 in
def wayNum (cs : List Nat) : Option Nat → NestedKey
  | none => .num (-1)
  | some n => .num ((cs.getD n 0 : Nat) : Int)
def partKey (cs : List Nat) (p : Nat × Std) : NestedKey := .tup [.num (p.1 : Int), .tup (p.2.2.map (wayNum cs))]
def partKeys (cs : List Nat) (F : Form) : List NestedKey := (cs.zip F).map (partKey cs)
def part (cs : List Nat) (F : Form) : List Nat := QD.numb (partKeys cs F)
def wordKey (s : Std) : NestedKey := .tup (s.1.map .text)
def wordKeys (F : Form) : List NestedKey := F.map wordKey
def maxOf (cs : List Nat) : Nat := cs.foldl max 0
def alikeLoop (F : Form) : Nat → Nat → List Nat → List Nat
  | 0, _, cs => cs
  | f + 1, many, cs => if many ≤ maxOf cs then alikeLoop F f (maxOf cs + 1) (part cs F) else cs
def alike (F : Form) : List Nat := alikeLoop F (F.length + 1) 0 (QD.numb (wordKeys F))

theorem partKeys_len {cs : List Nat} {F : Form} (h : cs.length = F.length) : (partKeys cs F).length = F.length := by
  unfold partKeys
  rw [List.length_map, List.length_zip, h, Nat.min_self]
theorem part_len {cs : List Nat} {F : Form} (h : cs.length = F.length) : (part cs F).length = F.length := by
  unfold part
  rw [QD.numb_len, partKeys_len h]
theorem maxOf_le : ∀ (cs : List Nat) (a b : Nat), cs.foldl max a ≤ b ↔ a ≤ b ∧ ∀ x ∈ cs, x ≤ b
  | [], a, b => by simp
  | c :: cs, a, b => by
    rw [List.foldl_cons, maxOf_le cs (max a c) b]
    constructor
    · rintro ⟨h1, h2⟩
      refine ⟨by omega, fun x hx => ?_⟩
      rcases List.mem_cons.mp hx with rfl | hx
      · omega
      · exact h2 x hx
    · rintro ⟨h1, h2⟩
      have := h2 c List.mem_cons_self
      exact ⟨by omega, fun x hx => h2 x (List.mem_cons_of_mem _ hx)⟩
theorem le_maxOf {cs : List Nat} {x : Nat} (h : x ∈ cs) : x ≤ maxOf cs := ((maxOf_le cs 0 _).mp (Nat.le_refl _)).2 x h
theorem maxOf_eq {cs : List Nat} {m : Nat} (h : m ∈ cs) (hm : ∀ x ∈ cs, x ≤ m) : maxOf cs = m :=
  Nat.le_antisymm ((maxOf_le cs 0 m).mpr ⟨Nat.zero_le _, hm⟩) (le_maxOf h)
theorem numb_lt {α : Type} [DecidableEq α] {ms : List α} {x : Nat} (h : x ∈ QD.numb ms) : x < (QD.seenOf ms).length := by
  obtain ⟨m, hm, rfl⟩ := List.mem_map.mp h
  exact List.idxOf_lt_length_of_mem ((QD.mem_seenOf ms m).mpr hm)
theorem numb_lt' {α : Type} [DecidableEq α] {ms : List α} {x : Nat} (h : x ∈ QD.numb ms) : x < ms.length := Nat.lt_of_lt_of_le (numb_lt h) (QD.seenOf_len ms)

/-! ### the order in which standings are met -/
def clsOf (cs : List Nat) (n : Nat) : Nat := cs.getD n 0
def visit (cs : List Nat) (met : List Nat) : Option Nat → List Nat
  | none => met
  | some n => if clsOf cs n ∈ met.map (clsOf cs) then met else met ++ [n]
def visitAll (cs : List Nat) (met : List Nat) (ws : Ways) : List Nat := ws.foldl (visit cs) met
def newWay (cs met : List Nat) (w : Option Nat) : Option Nat := w.map fun n => (met.map (clsOf cs)).idxOf (clsOf cs n)
def newStd (cs met : List Nat) (s : Std) : Std := (s.1, s.2.map (newWay cs met))
def stdOf (F : Form) (k : Nat) : Std := F.getD k ([], [])
def orderLoop (F : Form) (cs : List Nat) : Nat → List Nat → Form → Form
  | 0, _, told => told
  | f + 1, met, told => if told.length < met.length then
      orderLoop F cs f (visitAll cs met (stdOf F (met.getD told.length 0)).2) (told ++ [newStd cs (visitAll cs met (stdOf F (met.getD told.length 0)).2) (stdOf F (met.getD told.length 0))])
    else told
def inOrder (F : Form) (cs : List Nat) : Form := orderLoop F cs (F.length + 1) [0] []
theorem stdOf_get {F : Form} {k : Nat} (h : k < F.length) : F[k]? = some (stdOf F k) := by
  unfold stdOf
  rw [List.getD_eq_getElem?_getD, List.getElem?_eq_getElem h]
  rfl
theorem nodup_le : ∀ (n : Nat) (l : List Nat), l.Nodup → (∀ x ∈ l, x < n) → l.length ≤ n
  | 0, l, _, h => by
    cases l with
    | nil => exact Nat.le_refl _
    | cons x l => exact absurd (h x List.mem_cons_self) (Nat.not_lt_zero _)
  | n + 1, l, nd, h => by
    have h1 := nodup_le n (l.erase n) (nd.erase n) fun x hx => by
      have hx' := List.mem_of_mem_erase hx
      have h2 := h x hx'
      have h3 : x ≠ n := fun e => by
        rw [e] at hx
        exact nd.not_mem_erase hx
      omega
    have h4 : l.length ≤ (l.erase n).length + 1 := by
      rw [List.length_erase]
      split <;> omega
    omega
/-- what holds of the met ones -/
structure Met (F : Form) (cs met : List Nat) : Prop where
  nd : (met.map (clsOf cs)).Nodup
  lt : ∀ m ∈ met, m < F.length
theorem Met.len {F : Form} {cs met : List Nat} (h : Met F cs met) : met.length ≤ F.length :=
  nodup_le _ _ ((List.pairwise_map.mp h.nd).imp fun h e => h (congrArg _ e)) h.lt
theorem Met.visit {F : Form} {cs met : List Nat} (h : Met F cs met) {w : Option Nat} (hw : ∀ n, w = some n → n < F.length) : Met F cs (visit cs met w) := by
  cases w with
  | none => exact h
  | some n =>
    unfold QM.visit
    show Met F cs (if clsOf cs n ∈ met.map (clsOf cs) then met else met ++ [n])
    by_cases hm : clsOf cs n ∈ met.map (clsOf cs)
    · rw [if_pos hm]
      exact h
    · rw [if_neg hm]
      refine ⟨?_, fun m hm' => ?_⟩
      · rw [List.map_append, List.nodup_append]
        exact ⟨h.nd, by simp, fun a ha b hb => by rw [List.mem_singleton.mp hb]; exact fun e => hm (e ▸ ha)⟩
      · rcases List.mem_append.mp hm' with q | q
        · exact h.lt m q
        · rw [List.mem_singleton.mp q]
          exact hw n rfl
theorem visit_pre (cs met : List Nat) (w : Option Nat) : ∃ t, visit cs met w = met ++ t := by
  cases w with
  | none => exact ⟨[], by simp [visit]⟩
  | some n =>
    by_cases h : clsOf cs n ∈ met.map (clsOf cs)
    · exact ⟨[], by simp [visit, h]⟩
    · exact ⟨[n], by simp [visit, h]⟩
theorem visitAll_pre (cs : List Nat) : ∀ (ws : Ways) (met : List Nat), ∃ t, visitAll cs met ws = met ++ t
  | [], met => ⟨[], by simp [visitAll]⟩
  | w :: ws, met => by
    obtain ⟨t, e⟩ := visit_pre cs met w
    obtain ⟨t2, e2⟩ := visitAll_pre cs ws (visit cs met w)
    refine ⟨t ++ t2, ?_⟩
    show visitAll cs (visit cs met w) ws = _
    rw [e2, e, List.append_assoc]
theorem visit_has (cs met : List Nat) (n : Nat) : clsOf cs n ∈ (visit cs met (some n)).map (clsOf cs) := by
  by_cases h : clsOf cs n ∈ met.map (clsOf cs)
  · simpa [visit, h] using h
  · simp [visit, h]
theorem visitAll_has (cs : List Nat) : ∀ (ws : Ways) (met : List Nat) (n : Nat), some n ∈ ws → clsOf cs n ∈ (visitAll cs met ws).map (clsOf cs)
  | w :: ws, met, n, h => by
    rcases List.mem_cons.mp h with e | h
    · obtain ⟨t, e2⟩ := visitAll_pre cs ws (visit cs met w)
      show _ ∈ (visitAll cs (visit cs met w) ws).map _
      rw [e2, List.map_append]
      exact List.mem_append_left _ (by rw [← e]; exact visit_has cs met n)
    · exact visitAll_has cs ws (visit cs met w) n h
theorem Met.visitAll {F : Form} {cs : List Nat} : ∀ {ws : Ways} {met : List Nat}, Met F cs met → (∀ n, some n ∈ ws → n < F.length) → Met F cs (visitAll cs met ws)
  | [], _, h, _ => h
  | w :: ws, met, h, hw => Met.visitAll (ws := ws) (met := QM.visit cs met w) (h.visit fun n e => hw n (by rw [e]; exact List.mem_cons_self)) fun n hn => hw n (List.mem_cons_of_mem _ hn)

/-! ### needless ways -/
def isNeedless (F : Form) (S : List Bool) (word : Word) (t : Str) (n : Nat) : Bool := S.getD n false && decide ((stdOf F n).1 = word ++ [t])
def pruneWay (F : Form) (S : List Bool) (word : Word) (t : Str) : Option Nat → Option Nat
  | none => none
  | some n => if isNeedless F S word t n = true then none else some n
def pruneWays (tags : List Str) (F : Form) (S : List Bool) (s : Std) : Ways := (tags.zip s.2).map fun p => pruneWay F S s.1 p.1 p.2
def pruneStd (tags : List Str) (F : Form) (S : List Bool) (s : Std) : Std := (s.1, pruneWays tags F S s)
def needStep (tags : List Str) (F : Form) (st : Form × List Bool) (k : Nat) : Form × List Bool :=
  (st.1.set k (pruneStd tags F st.2 (stdOf st.1 k)), st.2.set k ((pruneWays tags F st.2 (stdOf st.1 k)).all Option.isNone))
def keyOf (F : Form) (k : Nat) : Int := -((stdOf F k).1.length : Int)
def byLen (F : Form) : List Nat := (List.range F.length).mergeSort fun i j => decide (keyOf F i ≤ keyOf F j)
def needFold (tags : List Str) (F : Form) (ks : List Nat) : Form × List Bool := ks.foldl (needStep tags F) (F, List.replicate F.length false)
def needless (tags : List Str) (F : Form) : Form := (needFold tags F (byLen F)).1
def least (tags : List Str) (F : Form) : Form := inOrder (needless tags F) (alike (needless tags F))

theorem pruneWays_len {tags : List Str} {F : Form} {S : List Bool} {s : Std} (h : s.2.length = tags.length) : (pruneWays tags F S s).length = tags.length := by
  unfold pruneWays
  rw [List.length_map, List.length_zip, h, Nat.min_self]
theorem pruneWays_get {tags : List Str} {F : Form} {S : List Bool} {s : Std} {k : Nat} {t : Str} {w : Option Nat} (ht : tags[k]? = some t) (hw : s.2[k]? = some w) : (pruneWays tags F S s)[k]? = some (pruneWay F S s.1 t w) := by
  have ez : (tags.zip s.2)[k]? = some (t, w) := by
    rw [List.getElem?_zip_eq_some]
    exact ⟨ht, hw⟩
  unfold pruneWays
  rw [List.getElem?_map, ez]
  rfl
theorem pruneWay_some {F : Form} {S : List Bool} {word : Word} {t : Str} {w : Option Nat} {n : Nat} (h : pruneWay F S word t w = some n) : w = some n := by
  cases w with
  | none => cases h
  | some m =>
    have h : (if isNeedless F S word t m = true then none else some m) = some n := h
    by_cases e : isNeedless F S word t m = true
    · rw [if_pos e] at h
      cases h
    · rw [if_neg e] at h
      exact h
theorem pruneWays_some {tags : List Str} {F : Form} {S : List Bool} {s : Std} {n : Nat} (h : some n ∈ pruneWays tags F S s) : some n ∈ s.2 := by
  obtain ⟨p, hp, e⟩ := List.mem_map.mp h
  rw [← pruneWay_some e]
  exact (List.of_mem_zip hp).2
/-- what stays through the steps -/
structure Pruned (tags : List Str) (F : Form) (st : Form × List Bool) : Prop where
  len : st.1.length = F.length
  lenS : st.2.length = F.length
  word : ∀ k s, st.1[k]? = some s → s.1 = (stdOf F k).1 ∧ s.2.length = (stdOf F k).2.length ∧ ∀ n, some n ∈ s.2 → some n ∈ (stdOf F k).2
theorem Pruned.start (tags : List Str) (F : Form) : Pruned tags F (F, List.replicate F.length false) := by
  refine ⟨rfl, List.length_replicate, fun k s h => ?_⟩
  have hk : k < F.length := (List.getElem?_eq_some_iff.mp h).1
  have h : F[k]? = some s := h
  rw [stdOf_get hk] at h
  cases h
  exact ⟨rfl, rfl, fun n h => h⟩
theorem Pruned.step {tags : List Str} {F : Form} {st : Form × List Bool} (p : Pruned tags F st) (g : Good tags F) {k : Nat} (hk : k < F.length) : Pruned tags F (needStep tags F st k) := by
  have h1 : st.1[k]? = some (stdOf st.1 k) := stdOf_get (by rw [p.len]; exact hk)
  obtain ⟨w1, w2, w3⟩ := p.word k _ h1
  have gl : (stdOf F k).2.length = tags.length := g.ways (stdOf_get hk)
  refine ⟨by show (st.1.set k _).length = _; rw [List.length_set, p.len], by show (st.2.set k _).length = _; rw [List.length_set, p.lenS], fun j s hj => ?_⟩
  have hj : (st.1.set k (pruneStd tags F st.2 (stdOf st.1 k)))[j]? = some s := hj
  by_cases e : k = j
  · subst e
    rw [List.getElem?_set_self (by rw [p.len]; exact hk)] at hj
    cases hj
    refine ⟨w1, ?_, fun n hn => w3 n (pruneWays_some hn)⟩
    show (pruneWays tags F st.2 (stdOf st.1 k)).length = _
    rw [pruneWays_len (by rw [w2, gl]), gl]
  · rw [List.getElem?_set_ne e] at hj
    exact p.word j s hj
theorem Pruned.fold {tags : List Str} {F : Form} (g : Good tags F) : ∀ (ks : List Nat) (st : Form × List Bool), Pruned tags F st → (∀ k ∈ ks, k < F.length) → Pruned tags F (ks.foldl (needStep tags F) st)
  | [], _, p, _ => p
  | k :: ks, st, p, h => Pruned.fold g ks (needStep tags F st k) (p.step g (h k List.mem_cons_self)) fun j hj => h j (List.mem_cons_of_mem _ hj)
theorem byLen_lt {F : Form} {k : Nat} (h : k ∈ byLen F) : k < F.length := by
  unfold byLen at h
  rw [List.mem_mergeSort] at h
  exact List.mem_range.mp h
theorem byLen_len (F : Form) : (byLen F).length = F.length := by
  unfold byLen
  rw [List.length_mergeSort, List.length_range]
theorem mix_get {α : Type} {P Q : List α} {j : Nat} (h : P.length = Q.length) (hj : j < Q.length) : (P.take j ++ Q.drop j)[j]? = Q[j]? := by
  rw [List.getElem?_append_right (by rw [List.length_take]; omega), List.length_take, Nat.min_eq_left (by omega), Nat.sub_self, List.getElem?_drop, Nat.add_zero]
theorem mix_set {α : Type} {P Q : List α} {j : Nat} {x : α} (h : P.length = Q.length) (hj : P[j]? = some x) : (P.take j ++ Q.drop j).set j x = P.take (j + 1) ++ Q.drop (j + 1) := by
  have hj' : j < P.length := (List.getElem?_eq_some_iff.mp hj).1
  rw [List.set_append_right _ _ (by rw [List.length_take]; omega), List.length_take, Nat.min_eq_left (by omega), Nat.sub_self, List.take_succ, hj, List.drop_eq_getElem_cons (by omega : j < Q.length), List.set_cons_zero]
  simp
theorem mix_same {α : Type} {P Q : List α} {j : Nat} {x : α} (h : P.length = Q.length) (hj : P[j]? = some x) (hq : Q[j]? = some x) : P.take j ++ Q.drop j = P.take (j + 1) ++ Q.drop (j + 1) := by
  rw [← mix_set h hj]
  have hl : (P.take j ++ Q.drop j)[j]? = some x := by
    rw [mix_get h (List.getElem?_eq_some_iff.mp hq).1]
    exact hq
  refine List.ext_getElem? fun i => ?_
  by_cases e : j = i
  · subst e
    rw [List.getElem?_set_self (List.getElem?_eq_some_iff.mp hl).1, hl]
  · rw [List.getElem?_set_ne e]
end QM
end

section
set_option Elab.async false
set_option linter.all false
set_option maxRecDepth 100000
/-! Qown: len and == by the class's own methods, with any answer. -/
namespace QO
open PySem PySem.Spec PyProof.Rows L2
section
variable {X : Cx} {CX : CXT} {k : Nat} {f C : Addr} {fd : FuncData} {ps : List Str} {sp : Sp} {E : XK}
theorem run_in {A : Around} {pins : List (Addr × Obj)} {σ : L2.St} {H : Hp} {s : Shared} {Q : VK} {us : List Value} {vs : List V} (sb : Sub X k A) (F : FnOk X.prog X.w X.K X.mg X.base CX k f fd ps sp) (hb : Binds X.K fd ps []) (hx : Passes CX X E)
    (I : Inv X pins σ H s) (r : Vals vs us) (h : sp vs H Q E) : wpAny (model X.prog X.w) A (call (.ref f) us) (EP X pins σ Q) X.xe s := by
  have hl : us.length = ps.length := by rw [← r.length]; exact F.len _ _ _ _ h
  have e0 : Env0 X.prog X.w X.K X.mg X.base A X.stack s H := by
    have e := I.env0
    exact ⟨by rw [sb.fr]; exact e.frames, e.mod, e.bs, e.bsz, e.funs, e.frf, e.hok, e.bare⟩
  refine wpAny_call (codeAny_mono (F.run A X.stack s H ⟨us, []⟩ us vs Q E sb.room e0 (by
    have := hb s us I.kIn (by simpa using hl)
    simpa using this) r h) fun r s' hq => ?_)
  cases r with
  | error e => exact hx pins σ H s e s' I hq
  | ok fl =>
    cases fl with
    | ret u => exact I.after hq
    | next => exact False.elim hq
    | brk => exact False.elim hq
    | cont => exact False.elim hq
/-- len(x) by an own __len__ -/
def rLenO (C : Addr) (sp : Sp) (E : XK) : List V → Hp → VK → Prop := fun xs H Q => ∃ a dx fs, xs = [.ref a] ∧ H a = some (.ins C dx fs) ∧ sp [.ref a] H (fun v H' => ∃ n : Nat, v = .int (n : Int) ∧ n < sizeLine ∧ Q v H') E
theorem call_lenO (F : FnOk X.prog X.w X.K X.mg X.base CX k f fd ps sp) (hm : Meth X.K C "__len__" f) (hr : Room (k + 1) X.A) (hb : Binds X.K fd ps []) (hx : Passes CX X E) : CallR X (.builtin "len") (rLenO C sp E) := by
  intro pins s σ H xs us Q I r h
  obtain ⟨a, dx, fs, rfl, ha, h⟩ := h
  obtain ⟨u, rfl, ru⟩ := vals1 r
  cases ru
  obtain ⟨mA, J, _⟩ := ins_get I.hok ha
  obtain ⟨od, J, _⟩ := J.look
  obtain ⟨m, hF⟩ := I.fr
  refine PySem.W.len_K hF I.ok.mod.kin J hm.at_ hm.fn ?_
  refine wpAny_mono (run_in (A := X.A.in1) (vs := [.ref a]) ⟨hr.in1, rfl⟩ F hb hx I (.cons rfl .nil) h) (fun v s' q => ?_) fun _ _ x => x
  obtain ⟨v', H', I', rv, n, rfl, hn, q⟩ := q
  obtain ⟨t, rfl⟩ := (show ∃ t, v = Value.int (n : Int) t from rv)
  have hs : sizeLine = 16777216 := sizeLine_eq
  exact ⟨⟨by omega, by omega⟩, .int (n : Int), H', I'.tok _, ⟨_, rfl⟩, q⟩
/-- x == y by an own __eq__ -/
def rEqO (K : PySem.W.Frag) (C : Addr) (sp : Sp) (E : XK) : R2 := fun x y H Q => ∃ a dx fs t, x = .ref a ∧ H a = some (.ins C dx fs) ∧ TyOf K H y t ∧ PySem.W.notFirst K C t = true ∧ sp [.ref a, y] H (fun v H' => ∃ b : Bool, v = .bl b ∧ Q v H') E
theorem looks_ty {pins : List (Addr × Obj)} {σ : L2.St} {H : Hp} {s : Shared} {x : V} {u t : Value} (I : Inv X pins σ H s) (rx : RelV x u) (ty : TyOf X.K H x t) : PySem.W.Looks (model X.prog X.w) s.heap (typeOf u) t := by
  have ob : ∀ {a : Addr} {o : Obj}, s.heap.get? a = some o → PySem.W.Looks (model X.prog X.w) s.heap (typeOf (.ref a)) o.cls := fun e => PySem.W.Looks.ld e |>.andThen (PySem.W.Looks.now)
  cases ty with
  | non => cases (show u = Value.none from rx); exact PySem.W.Looks.of_pure rfl
  | bl y => cases (show u = Value.bool y from rx); exact PySem.W.Looks.of_pure rfl
  | int i => obtain ⟨t, q⟩ := (show ∃ t, u = Value.int i t from rx); cases q; exact PySem.W.Looks.of_pure rfl
  | str y => obtain ⟨t, q⟩ := (show ∃ t, u = Value.str y t from rx); cases q; exact PySem.W.Looks.of_pure rfl
  | flt y => obtain ⟨t, q⟩ := (show ∃ t, u = Value.float y t from rx); cases q; exact PySem.W.Looks.of_pure rfl
  | @lst a xs ea =>
    cases (show u = Value.ref a from rx)
    obtain ⟨_, _, n, _, h1⟩ := (show ObjOk X.prog X.w H s.heap a (.lst xs) from I.hok a _ ea)
    exact ob h1
  | @frz a ob' xs ea =>
    cases (show u = Value.ref a from rx)
    obtain ⟨_, _, _, n, _, h1⟩ := (show ObjOk X.prog X.w H s.heap a (.frz ob' (.lst xs)) from I.hok a _ ea)
    exact ob h1
  | @tup a xs ea =>
    cases (show u = Value.ref a from rx)
    obtain ⟨_, _, _, o, h1, h2, _⟩ := (show ObjOk X.prog X.w H s.heap a (.tup xs) from I.hok a _ ea)
    rw [← h2]
    exact ob h1
  | @dK a kvs ea =>
    cases (show u = Value.ref a from rx)
    obtain ⟨_, _, vs, _, o, es, ep, h1, h2, _⟩ := (show ObjOk X.prog X.w H s.heap a (.dK kvs) from I.hok a _ ea)
    rw [← h2.1]
    exact ob h1
  | @dT a kvs ea =>
    cases (show u = Value.ref a from rx)
    obtain ⟨_, _, xs, _, o, es, ep, h1, h2, _⟩ := (show ObjOk X.prog X.w H s.heap a (.dT kvs) from I.hok a _ ea)
    rw [← h2.1]
    exact ob h1
  | @ins a C dx fs ea cl ha hn htk hm =>
    cases (show u = Value.ref a from rx)
    obtain ⟨mA, O, _⟩ := ins_get I.hok ea
    obtain ⟨od, J, _⟩ := O.look
    exact J.type
theorem op_eqO (F : FnOk X.prog X.w X.K X.mg X.base CX k f fd ps sp) (hm : Meth X.K C "__eq__" f) (hr : Room k X.A) (hb : Binds X.K fd ps []) (hx : Passes CX X E) : OpR X (compareOp .Eq) (rEqO X.K C sp E) := by
  intro pins s σ H x y v u Q I rx ry h
  obtain ⟨a, dx, fs, t, rfl, ha, ht, hn, h⟩ := h
  cases rx
  obtain ⟨mA, J, _⟩ := ins_get I.hok ha
  obtain ⟨od, J, _⟩ := J.look
  obtain ⟨m, hF⟩ := I.fr
  show wpAny (model X.prog X.w) X.A (richCompare .Eq _ u) (EP X pins σ Q) X.xe s
  refine PySem.W.cmp_K (op := .Eq) hr.units0 hF I.ok.mod.kin J (looks_ty I ry ht) hn hm.at_ hm.fn ?_
  refine wpAny_mono (run_in (A := X.A) (vs := [.ref a, y]) ⟨hr, rfl⟩ F hb hx I (.cons rfl (.cons ry .nil)) h) (fun v s' q => ?_) fun _ _ x => x
  obtain ⟨v', H', I', rv, b, rfl, q⟩ := q
  cases rv
  exact ⟨.bl b, H', I', rfl, q⟩
/-- x in y by an own __contains__ -/
def rInO (C : Addr) (sp : Sp) (E : XK) (neg : Bool) : R2 := fun x y H Q => ∃ a dx fs, y = .ref a ∧ H a = some (.ins C dx fs) ∧ sp [.ref a, x] H (fun v H' => ∃ b : Bool, v = .bl b ∧ Q (.bl (if neg then !b else b)) H') E
theorem op_inO (F : FnOk X.prog X.w X.K X.mg X.base CX k f fd ps sp) (hm : Meth X.K C "__contains__" f) (hr : Room k X.A) (hb : Binds X.K fd ps []) (hx : Passes CX X E) : OpR X (compareOp .In) (rInO C sp E false) := by
  intro pins s σ H x y v u Q I rx ry h
  obtain ⟨a, dx, fs, rfl, ha, h⟩ := h
  cases ry
  obtain ⟨mA, J, _⟩ := ins_get I.hok ha
  obtain ⟨od, J, _⟩ := J.look
  obtain ⟨m, hF⟩ := I.fr
  refine PySem.W.in_K hF I.ok.mod.kin J hm.at_ hm.fn ?_
  refine wpAny_mono (run_in (A := X.A) (vs := [.ref a, x]) ⟨hr, rfl⟩ F hb hx I (.cons rfl (.cons rx .nil)) h) (fun v' s' q => ?_) fun _ _ x => x
  obtain ⟨z, H', I', rv, b, rfl, q⟩ := q
  cases rv
  exact wpAny_truthy_bool ⟨.bl b, H', I', rfl, q⟩
theorem op_notInO (F : FnOk X.prog X.w X.K X.mg X.base CX k f fd ps sp) (hm : Meth X.K C "__contains__" f) (hr : Room k X.A) (hb : Binds X.K fd ps []) (hx : Passes CX X E) : OpR X (compareOp .NotIn) (rInO C sp E true) := by
  intro pins s σ H x y v u Q I rx ry h
  obtain ⟨a, dx, fs, rfl, ha, h⟩ := h
  cases ry
  obtain ⟨mA, J, _⟩ := ins_get I.hok ha
  obtain ⟨od, J, _⟩ := J.look
  obtain ⟨m, hF⟩ := I.fr
  refine PySem.W.notIn_K hF I.ok.mod.kin J hm.at_ hm.fn ?_
  refine wpAny_mono (run_in (A := X.A) (vs := [.ref a, x]) ⟨hr, rfl⟩ F hb hx I (.cons rfl (.cons rx .nil)) h) (fun v' s' q => ?_) fun _ _ x => x
  obtain ⟨z, H', I', rv, b, rfl, q⟩ := q
  cases rv
  exact wpAny_truthy_bool ⟨.bl (!b), H', I', rfl, q⟩
end
/-- text * 0, text * 1 -/
theorem op_mul_str {X : Cx} : OpR X (binaryOp .Mult) (fun x y H Q => ∃ z, x = .str z ∧ ((y = .int 0 ∧ Q (.str Str.empty) H) ∨ (y = .int 1 ∧ Q (.str z) H))) := by
  intro pins s σ H x y v u Q I rx ry h
  obtain ⟨z, rfl, h⟩ := h
  obtain ⟨t, rfl⟩ := (show ∃ t, v = Value.str z t from rx)
  rcases h with ⟨rfl, q⟩ | ⟨rfl, q⟩
  · obtain ⟨t', rfl⟩ := (show ∃ t, u = Value.int 0 t from ry)
    exact PySem.P.mul_str_none (by decide) (by decide) ⟨.str Str.empty, H, I.tok _, ⟨_, rfl⟩, q⟩
  · obtain ⟨t', rfl⟩ := (show ∃ t, u = Value.int 1 t from ry)
    refine PySem.P.mul_str (by decide) (fun _ e => by simp at e) (fun _ e => by simp at e) ?_
    rw [if_neg (by decide), if_pos (by simp)]
    exact ⟨.str z, H, I, ⟨_, rfl⟩, q⟩
/-- xs.count(y), flat things -/
def rCount (K : PySem.W.Frag) : V → List V → Hp → VK → Prop := fun x xs H Q => ∃ (a : Addr) (ys : List V) (y : V), x = .ref a ∧ xs = [y] ∧ SqL K H a ys ∧ flatV y = true ∧ ys.all flatV = true ∧ Q (.int ((ys.countP fun z => eqV z y : Nat) : Int)) H
theorem count_eqU {y : V} : ∀ {ys : List V} {us : List Value}, Vals ys us → ys.all flatV = true → us.countP (eqU y) = ys.countP fun z => eqV z y
  | _, _, .nil, _ => rfl
  | z :: ys, u :: us, .cons r t, h => by
    rw [List.all_cons, Bool.and_eq_true] at h
    rw [List.countP_cons, List.countP_cons, count_eqU t h.2, eqU_of r h.1]
theorem mt_countL {X : Cx} : MtR X "list.count" (rCount X.K) := by
  intro pins s σ H x xs v us Q I rx rxs h
  obtain ⟨a, ys, y, rfl, rfl, hs, fy, fys, q⟩ := h
  cases rx
  cases rxs with
  | cons ry rt =>
    rename_i uy ut
    cases rt
    obtain ⟨its, rv, ⟨⟨cls, dd, data, sl⟩, n, ho, hc, hdn, hd⟩, hlen⟩ := I.list hs
    simp only at hc hd
    subst hc hd
    refine call_meets PySem.F.slot_list_count ⟨_, ho, rfl⟩ PySem.F.entry_list_count (PySem.F.args_list_count_2 _ _)
      (SeqAt.list_countAt a its.toArray n dd sl uy (eqU y)) ⟨ho, fun u' hu' => mem_eqAt ry fy rv fys u' (by simpa using hu'), ?_⟩
    refine ⟨.int ((ys.countP fun z => eqV z y : Nat) : Int), H, I.tok _, ⟨s.toks, ?_⟩, q⟩
    show Value.int ((its.toArray.toList.countP (eqU y) : Nat) : Int) s.toks = _
    rw [show its.toArray.toList.countP (eqU y) = ys.countP fun z => eqV z y from count_eqU rv fys]
theorem mt_countK {X : Cx} (K : PySem.W.Frag) (h : X.K = K := by rfl) : MtR X "list.count" (rCount K) := h ▸ mt_countL
/-- what isinstance and == ask of an own class -/
structure OwnC (K : PySem.W.Frag) (C : Addr) : Prop where
  ha : PySem.W.findIn K (.ref C) "__class__" = some (some (.builtin "object.__class__"))
  hn : PySem.W.specialIn K (.builtin "object.__class__") "__get__" = some (some (.builtin "getset_descriptor.__get__"))
  htk : PySem.W.takesIn K (.builtin "object.__class__") = some true
  hm : PySem.W.mroIn K C (.type "object") = some true
  kL : PySem.W.kitOne K (.type "list") (.ref C) = some false
  kT : PySem.W.kitOne K (.type "tuple") (.ref C) = some false
  kS : PySem.W.kitOne K (.type "str") (.ref C) = some false
  kI : PySem.W.kitOne K (.type "int") (.ref C) = some false
  kB : PySem.W.kitOne K (.type "bool") (.ref C) = some false
  kN : PySem.W.kitOne K (.type "NoneType") (.ref C) = some false
  kD : PySem.W.kitOne K (.type "dict") (.ref C) = some false
  cL : PySem.W.kitOne K (.ref C) (.type "list") = some false
  cT : PySem.W.kitOne K (.ref C) (.type "tuple") = some false
  cS : PySem.W.kitOne K (.ref C) (.type "str") = some false
  cI : PySem.W.kitOne K (.ref C) (.type "int") = some false
  cB : PySem.W.kitOne K (.ref C) (.type "bool") = some false
  nL : PySem.W.notFirst K C (.type "list") = true
  nT : PySem.W.notFirst K C (.type "tuple") = true
  nS : PySem.W.notFirst K C (.type "str") = true
  nI : PySem.W.notFirst K C (.type "int") = true
  nB : PySem.W.notFirst K C (.type "bool") = true
  nN : PySem.W.notFirst K C (.type "NoneType") = true
  nD : PySem.W.notFirst K C (.type "dict") = true
theorem OwnC.self {K : PySem.W.Frag} {C : Addr} : PySem.W.kitOne K (.ref C) (.ref C) = some true := if_pos (by simp)
theorem OwnC.same {K : PySem.W.Frag} {C : Addr} : PySem.W.notFirst K C (.ref C) = true := by simp [PySem.W.notFirst]
theorem OwnC.ty {K : PySem.W.Frag} {C a dx : Addr} {H : Hp} {fs : List (Str × V)} (o : OwnC K C) (c : Cls K C) (e : H a = some (.ins C dx fs)) : TyOf K H (.ref a) (.ref C) := .ins e c o.ha o.hn o.htk o.hm
end QO
end

section
set_option Elab.async false
set_option linter.all false
set_option maxRecDepth 100000
/-! Qdata: == and != of lists within lists and tuples, by what they hold. -/
namespace QB
open PySem PySem.Spec PyProof.Rows L2
structure Enc {α : Type} [DecidableEq α] (D : α → PyData) (ok : α → Prop) (n : Nat) : Prop where
  eq : ∀ x y, PyData.eqv (D x) (D y) = decide (x = y)
  lay : ∀ x, ok x → PyData.canLay0 (D x) = true
  dep : ∀ x, PyData.depth (D x) ≤ n
section
variable {α β : Type} [DecidableEq α] [DecidableEq β] {D : α → PyData} {E : β → PyData} {ok : α → Prop} {ok2 : β → Prop} {n m : Nat} {K : PySem.W.Frag} {H : Hp}
theorem Enc.eqAll (e : Enc D ok n) : ∀ l k : List α, PyData.eqvAll (l.map D) (k.map D) = decide (l = k)
  | [], [] => by simp [PyData.eqvAll]
  | [], _ :: _ => by simp [PyData.eqvAll]
  | _ :: _, [] => by simp [PyData.eqvAll]
  | x :: l, y :: k => by
    rw [List.map_cons, List.map_cons, PyData.eqvAll, e.eq, e.eqAll l k]
    by_cases h : x = y
    · subst h
      by_cases h2 : l = k <;> simp [h2]
    · simp [h]
theorem Enc.layAll (e : Enc D ok n) : ∀ l : List α, (∀ x ∈ l, ok x) → PyData.canLayAll0 (l.map D) = true
  | [], _ => by simp [PyData.canLayAll0]
  | x :: l, h => by
    rw [List.map_cons, PyData.canLayAll0, e.lay x (h x List.mem_cons_self), e.layAll l fun y hy => h y (List.mem_cons_of_mem _ hy)]
    rfl
theorem Enc.depAll (e : Enc D ok n) : ∀ l : List α, PyData.depthAll (l.map D) ≤ n
  | [] => by simp [PyData.depthAll]
  | x :: l => by
    rw [List.map_cons, PyData.depthAll]
    exact Nat.max_le.mpr ⟨e.dep x, e.depAll l⟩
theorem Enc.list (e : Enc D ok n) : Enc (fun l : List α => PyData.list (l.map D)) (fun l => ∀ x ∈ l, ok x) (n + 1) :=
  ⟨fun l k => by rw [PyData.eqv]; exact e.eqAll l k, fun l h => by rw [PyData.canLay0]; exact e.layAll l h, fun l => by rw [PyData.depth]; exact Nat.succ_le_succ (e.depAll l)⟩
theorem Enc.mono (e : Enc D ok n) (h : n ≤ m) : Enc D ok m := ⟨e.eq, e.lay, fun x => Nat.le_trans (e.dep x) h⟩
theorem Enc.pair (e : Enc D ok n) (f : Enc E ok2 n) : Enc (fun p : α × β => PyData.tuple [D p.1, E p.2]) (fun p => ok p.1 ∧ ok2 p.2) (n + 1) := by
  refine ⟨fun p q => ?_, fun p h => ?_, fun p => ?_⟩
  · rw [PyData.eqv, PyData.eqvAll, PyData.eqvAll, PyData.eqvAll, e.eq, f.eq, Bool.and_true]
    obtain ⟨p1, p2⟩ := p
    obtain ⟨q1, q2⟩ := q
    by_cases h1 : p1 = q1 <;> by_cases h2 : p2 = q2 <;> simp [h1, h2]
  · rw [PyData.canLay0, PyData.canLayAll0, PyData.canLayAll0, PyData.canLayAll0, e.lay _ h.1, f.lay _ h.2]
    rfl
  · rw [PyData.depth, PyData.depthAll, PyData.depthAll, PyData.depthAll]
    have := e.dep p.1
    have := f.dep p.2
    omega
theorem Enc.two (e : Enc D ok n) (f : Enc E ok2 n) : Enc (fun p : α × β => PyData.list [D p.1, E p.2]) (fun p => ok p.1 ∧ ok2 p.2) (n + 1) := by
  refine ⟨fun p q => ?_, fun p h => ?_, fun p => ?_⟩
  · rw [PyData.eqv, PyData.eqvAll, PyData.eqvAll, PyData.eqvAll, e.eq, f.eq, Bool.and_true]
    obtain ⟨p1, p2⟩ := p
    obtain ⟨q1, q2⟩ := q
    by_cases h1 : p1 = q1 <;> by_cases h2 : p2 = q2 <;> simp [h1, h2]
  · rw [PyData.canLay0, PyData.canLayAll0, PyData.canLayAll0, PyData.canLayAll0, e.lay _ h.1, f.lay _ h.2]
    rfl
  · rw [PyData.depth, PyData.depthAll, PyData.depthAll, PyData.depthAll]
    have := e.dep p.1
    have := f.dep p.2
    omega
theorem enc_str : Enc PyData.str (fun t => PyData.strOk t = true) 0 := ⟨fun x y => by
  rw [PyData.eqv]
  by_cases h : x = y <;> simp [h], fun x h => by rw [PyData.canLay0]; exact h, fun x => by simp [PyData.depth]⟩
theorem enc_int : Enc PyData.int (fun _ => True) 0 := ⟨fun x y => by
  rw [PyData.eqv]
  by_cases h : x = y <;> simp [h], fun x h => by rw [PyData.canLay0], fun x => by simp [PyData.depth]⟩
theorem enc_bool : Enc PyData.bool (fun _ => True) 0 := ⟨fun x y => by
  rw [PyData.eqv]
  by_cases h : x = y <;> simp [h], fun x h => by rw [PyData.canLay0], fun x => by simp [PyData.depth]⟩
def dW : Option Nat → PyData
  | none => .none
  | some n => .int (n : Int)
theorem enc_way : Enc dW (fun _ => True) 0 := by
  refine ⟨fun x y => ?_, fun x _ => ?_, fun x => ?_⟩
  · cases x <;> cases y <;> simp [dW, PyData.eqv]
    rename_i a b
    by_cases h : a = b
    · simp [h]
    · have : ¬ (a : Int) = (b : Int) := by omega
      simp [h, this]
  · cases x <;> simp [dW, PyData.canLay0]
  · cases x <;> simp [dW, PyData.depth]
def dWord (w : Word) : PyData := .list (w.map .str)
def dWays (w : Ways) : PyData := .list (w.map dW)
def dStd (s : Std) : PyData := .tuple [dWord s.1, dWays s.2]
def dForm (F : Form) : PyData := .list (F.map dStd)
def OkWord (w : Word) : Prop := ∀ t ∈ w, PyData.strOk t = true
def OkForm (F : Form) : Prop := ∀ s ∈ F, OkWord s.1
theorem enc_word : Enc dWord OkWord 1 := enc_str.list
theorem enc_ways : Enc dWays (fun w => ∀ x ∈ w, True) 1 := enc_way.list
theorem enc_std : Enc dStd (fun s => OkWord s.1 ∧ ∀ x ∈ s.2, True) 2 := enc_word.pair enc_ways
theorem enc_form : Enc dForm (fun F => ∀ s ∈ F, OkWord s.1 ∧ ∀ x ∈ s.2, True) 3 := enc_std.list
theorem OkForm.enc {F : Form} (h : OkForm F) : ∀ s ∈ F, OkWord s.1 ∧ ∀ x ∈ s.2, True := fun s hs => ⟨h s hs, fun _ _ => trivial⟩
theorem dpAll_map (f : α → V) (g : α → PyData) (h : ∀ x, Dp K H (f x) (g x)) : ∀ l : List α, DpAll K H (l.map f) (l.map g)
  | [] => .nil
  | x :: l => .cons (h x) (dpAll_map f g h l)
theorem dp_wd {a : Addr} {w : Word} (h : WordAt H a w) : Dp K H (.ref a) (dWord w) := .lst (SqL.of h) (dpAll_map _ _ (fun x => .str x) w)
theorem dp_way : ∀ x : Option Nat, Dp K H (vW x) (dW x)
  | none => .non
  | some n => .int (n : Int)
theorem dp_ways {a : Addr} {w : Ways} (h : WaysAt H a w) : Dp K H (.ref a) (dWays w) := .lst (SqL.of h) (dpAll_map _ _ dp_way w)
theorem dp_std {a : Addr} {s : Std} (h : StdAt H a s) : Dp K H (.ref a) (dStd s) := by
  obtain ⟨x, y, h1, h2, h3⟩ := h
  exact .tup (SqT.of h1) (.cons (dp_wd h2) (.cons (dp_ways h3) .nil))
theorem dp_form {a : Addr} {F : Form} (h : FormAt H a F) : Dp K H (.ref a) (dForm F) := by
  obtain ⟨ts, h1, h2⟩ := h
  refine .lst (SqL.of h1) ?_
  clear h1
  induction h2 with
  | nil => exact .nil
  | cons h _ ih => exact .cons (dp_std h) ih
theorem shaped_of (e : Enc D ok n) (hn : n ≤ 64) {x : α} (h : ok x) : SeqAt.shaped (D x) = true := by
  unfold SeqAt.shaped
  rw [Bool.and_eq_true]
  exact ⟨e.lay x h, decide_eq_true (Nat.le_trans (e.dep x) hn)⟩
theorem eq_enc (e : Enc D ok n) (hn : n ≤ 64) {u v : V} {x y : α} {Q : VK} (hx : Dp K H u (D x)) (hy : Dp K H v (D y)) (ox : ok x) (oy : ok y) (q : Q (.bl (decide (x = y))) H) : rEqD K u v H Q :=
  ⟨_, _, hx, hy, shaped_of e hn ox, shaped_of e hn oy, by rw [e.eq]; exact q⟩
theorem ne_enc (e : Enc D ok n) (hn : n ≤ 64) {u v : V} {x y : α} {Q : VK} (hx : Dp K H u (D x)) (hy : Dp K H v (D y)) (ox : ok x) (oy : ok y) (q : Q (.bl (!decide (x = y))) H) : rNeD K u v H Q :=
  ⟨_, _, hx, hy, shaped_of e hn ox, shaped_of e hn oy, by rw [e.eq]; exact q⟩
theorem eq_wd {a b : Addr} {v w : Word} {Q : VK} (hv : WordAt H a v) (hw : WordAt H b w) (ov : OkWord v) (ow : OkWord w) (q : Q (.bl (decide (v = w))) H) : rEqD K (.ref a) (.ref b) H Q := eq_enc enc_word (by decide) (dp_wd hv) (dp_wd hw) ov ow q
theorem ne_wd {a b : Addr} {v w : Word} {Q : VK} (hv : WordAt H a v) (hw : WordAt H b w) (ov : OkWord v) (ow : OkWord w) (q : Q (.bl (!decide (v = w))) H) : rNeD K (.ref a) (.ref b) H Q := ne_enc enc_word (by decide) (dp_wd hv) (dp_wd hw) ov ow q
theorem eq_form {a b : Addr} {F G : Form} {Q : VK} (hv : FormAt H a F) (hw : FormAt H b G) (ov : OkForm F) (ow : OkForm G) (q : Q (.bl (decide (F = G))) H) : rEqD K (.ref a) (.ref b) H Q := eq_enc enc_form (by decide) (dp_form hv) (dp_form hw) ov.enc ow.enc q
theorem ne_form {a b : Addr} {F G : Form} {Q : VK} (hv : FormAt H a F) (hw : FormAt H b G) (ov : OkForm F) (ow : OkForm G) (q : Q (.bl (!decide (F = G))) H) : rNeD K (.ref a) (.ref b) H Q := ne_enc enc_form (by decide) (dp_form hv) (dp_form hw) ov.enc ow.enc q
end
end QB
end

section
set_option Elab.async false
set_option linter.all false
set_option maxRecDepth 100000
set_option maxHeartbeats 2000000
/-! Qexc: a caught exception that outlives its suite. -/
namespace QX
open PySem PySem.Spec PyProof.Rows L2
/-- a caught exception that is kept: its class, its dict -/
def Kept (cls : Value) (d : Option Addr) (a : Addr) : HO := .ext fun h => ∃ (oe : Obj) (vs : Array Value), h.get? a = some oe ∧ Zc cls d oe ∧ oe.data = .fields vs
theorem kept_ok {P : Program} {w : World} {H : Hp} {h : Heap} {a : Addr} {cls : Value} {d : Option Addr} {ob : Obj} {fv : Array Value} (e : h.get? a = some ob) (z : Zc cls d ob) (hd : ob.data = .fields fv) : ObjOk P w H h a (Kept cls d a) :=
  ⟨⟨ob, fv, e, z, hd⟩, ⟨ob, e⟩, fun _ _ ⟨u, v, q, r⟩ k => ⟨u, v, k u q, r⟩⟩
theorem kept_get {P : Program} {w : World} {H : Hp} {h : Heap} {a : Addr} {cls : Value} {d : Option Addr} (hok : HOk P w H h) (e : H a = some (Kept cls d a)) : ∃ (ob : Obj) (fv : Array Value), h.get? a = some ob ∧ Zc cls d ob ∧ ob.data = .fields fv :=
  (show ObjOk P w H h a (.ext _) from hok a _ e).1
/-- what stood before a was made is not a -/
structure Apart (X : Cx) (pins : List (Addr × Obj)) (a : Addr) : Prop where
  s0 : ∀ b ob, X.s_0.heap.get? b = some ob → b ≠ a
  loc : X.env.locals ≠ a
  cell : ∀ y c, X.env.cells.lookup y = some c → c ≠ a
  pin : ∀ q ∈ X.pn ++ pins, q.1 ≠ a
section
variable {X : Cx} {pins : List (Addr × Obj)} {σ : L2.St} {H : Hp} {s : Shared} {a : Addr}
theorem Apart.of (I : Inv X pins σ H s) (hex : X.ex = []) (n : s.heap.get? a = none) : Apart X pins a := by
  have out : ∀ {b : Addr} {ob : Obj}, s.heap.get? b = some ob → b ≠ a := fun e z => by
    rw [z, n] at e
    cases e
  refine ⟨fun b ob e => ?_, ?_, fun y c e => ?_, fun q hq => out (I.pin q hq).1⟩
  · obtain ⟨u, hu⟩ := I.base.there b ob e (by rw [hex]; simp)
    exact out hu
  · obtain ⟨m, ⟨u, es, ep, hu, _⟩, _⟩ := I.loc
    exact out hu
  · obtain ⟨v, u, hu, _⟩ := I.cell y c e
    exact out hu
theorem track {o : HO} (I : Inv X pins σ H s) (ap : Apart X pins a) (na : H a = none) (ok : ObjOk X.prog X.w (upd H a o) s.heap a o) : Inv X pins σ (upd H a o) s := by
  have stays : ∀ {b : Addr} {u : HO}, H b = some u → upd H a o b = some u := fun e => (upd_ne (ne_of_none e na)).trans e
  exact { I with
    base := ⟨I.base.keep, I.base.slot, fun b ob e n hq => (upd_ne (ap.s0 b ob e)).trans (I.base.free b ob e n hq), I.base.there, fun b xs e => stays (I.base.tups b xs e), fun b u xs e => stays (I.base.frzs b u xs e), fun b ps e => by
      obtain ⟨m, q⟩ := I.base.tbls b ps e
      exact ⟨m, stays q⟩⟩
    free := (upd_ne ap.loc).trans I.free
    freeC := fun y c e => (upd_ne (ap.cell y c e)).trans (I.freeC y c e)
    pin := fun q hq => by
      obtain ⟨h1, h2, h3⟩ := I.pin q hq
      exact ⟨h1, (upd_ne (ap.pin q hq)).trans h2, h3⟩
    hok := I.hok.laidN (fun _ _ e => e) na ok }
end
/-- what a clause that keeps its exception wishes: at the suite's end the exception is tracked -/
def wKeep (K : PySem.W.Frag) (c : Value) (i : Nat) (ts : Addr → Value → Option Addr → TS) (Wout : WX) (D : Ends) : WX := fun cls d σ H =>
  ∃ b, PySem.W.exmOne K cls c = some b ∧ (b = false → Wout cls d σ H) ∧
    (b = true → ∀ a, H a = none → ts a cls d { nx := fun σ1 H1 => D.nx (σ1.set i none) (upd H1 a (Kept cls d a)), rt := fun v H1 => D.rt v (upd H1 a (Kept cls d a)), bk := fun σ1 H1 => D.bk (σ1.set i none) (upd H1 a (Kept cls d a)), ct := fun σ1 H1 => D.ct (σ1.set i none) (upd H1 a (Kept cls d a)) } (σ.set i (some (.ref a))) H)
section
variable {X : Cx} {x n : Str} {c : Value} {i : Nat} {body rest : List Stmt} {st₀ : Stmt} {np hpos tpos : Pos} {tb : WX → TS} {ts : Addr → Value → Option Addr → TS} {Wout : WX}
/-- the class that the clause names, looked up while an exception is handled -/
theorem clause_name {pins : List (Addr × Obj)} {σ : L2.St} {H : Hp} {s : Shared} {a : Addr} {pn : List (Addr × Obj)} (hc : Names X x c) (S : Inv (X.suite a pn) [] σ H s) {Q : Value → Shared → Prop} {E : Value → Shared → Prop} (q : Q c s) :
    wpAny (model X.prog X.w) (X.A.mark (some (.ref a))) (eval (.Name x np) X.env) Q E s := by
  rcases hc with ⟨h1, h2, h3 | ⟨h3, h4, h5⟩⟩
  · exact ld_glob (X := X.suite a pn) S h1 h3 q h2
  · exact ld_blt (X := X.suite a pn) S h1 h3 h4 q h5 h2
theorem keep_catch {pins : List (Addr × Obj)} {xe : Value → Shared → Prop} {D : Ends} {u : Value} {s' : Shared} (ok : X.Ok) (hs : X.stack = X.env :: X.outer) (hf : X.env.frame = some X.env.locals) (hex : X.ex = []) (hN : X.N.Nodup) (hi : X.N[i]? = some n) (hln : X.env.kindOf n = some .local) (hc : Names X x c) (tk : Takes X Wout)
    (hsu : ∀ (a : Addr) (oe : Obj) (cls : Value) (d : Option Addr) (pn : List (Addr × Obj)), Zc cls d oe → (∃ vs, oe.data = .fields vs) → PSs (X.suite a ((a, oe) :: pn)) (st₀ :: rest) (ts a cls d))
    (xx : XE (X.tr (X.pn ++ pins) xe) (wKeep X.K c i ts Wout D) u s') :
    wpAny (model X.prog X.w) X.A (noteFrame u X.env) (fun _ s₂ => wpAny (model X.prog X.w) X.A (setFlight u none) (fun _ s₃ => wpAny (model X.prog X.w) X.A (handleBy u X.env [.ExceptHandler (some (.Name x np)) (some n) (st₀ :: rest) hpos]) (SP X pins D) X.xe s₃) X.xe s₂) X.xe s' := by
  have hfr : X.A.frames = some (X.env :: X.outer) := by rw [ok.frames, hs]
  obtain ⟨a, B, sI, pins', σ', H', cls, d, rfl, J', nb, up, sky, na, os, ag, b, hb, hno, hyes⟩ := xx
  replace J' : Inv X pins σ' H' sI := J'.ofTry ok
  have apart : sI.heap.get? a = none → Apart X pins a := Apart.of J' hex
  replace sky : Sky B (X.env :: X.outer) a (Zc cls d) X.env.locals s'.heap := hs ▸ sky
  refine Sky.land Zc.steady hfr hf sky fun g1 fl1 up1 => ?_
  have I1 : Inv X pins σ' H' { s' with heap := g1 } := J'.landed nb fl1.1 (up.trans up1) os ag
  obtain ⟨o1, v1, k1, z1, d1⟩ := fl1.there
  have noFrame : a ∉ frs (X.env :: X.outer) := fun hm => by
    obtain ⟨_, o2, k2, hnf⟩ := fl1.2.2.1.mem hm
    rw [k1] at k2
    cases k2
    exact hnf _ d1
  have isIn : ∀ e ∈ X.env :: X.outer, e.frame ≠ some a := fun e he q => noFrame (List.mem_filterMap.mpr ⟨e, he, q⟩)
  have nL : a ≠ X.env.locals := fun z => isIn X.env List.mem_cons_self (z ▸ hf)
  have nF : a ∉ X.fs := fun hm => by
    obtain ⟨e, he, q⟩ := List.mem_filterMap.mp hm
    exact isIn e (List.mem_cons_of_mem _ he) q
  have ap : Apart X pins a := apart (by
    cases q : sI.heap.get? a with
    | none => rfl
    | some o2 =>
      have z := nb a o2 q (by rw [hs]; exact noFrame)
      rw [fl1.2.1] at z
      cases z)
  have S1 := I1.suite k1 d1 na nL nF
  refine wpAny_handleBy_cons (codeAny_handlers_test (clause_name (pins := pins) hc S1 ?_)) (fun q => by cases q)
  have ty : PySem.W.Looks (model X.prog X.w) g1 (typeOf (.ref a)) cls := fun A Q E t k q => wpAny_typeOf_ref (k _ _ k1) (z1.1.symm ▸ q)
  refine (PySem.W.exm_one (M := model X.prog X.w) I1.kIn ty hb).here ?_
  cases b with
  | true =>
    refine codeAny_handlers_suite_as (HandSPX.lands_againZ fl1 fun g2 fl2 up2 => ?_)
    have I2 : Inv X pins σ' H' { s' with heap := g2 } := J'.landed nb fl2.1 ((up.trans up1).trans up2) os ag
    obtain ⟨o2, v2, k2, z2, d2⟩ := fl2.there
    refine store_ok (X := X.suite a ((a, o2) :: (X.pn ++ pins))) (v := .ref a) (I2.suite k2 d2 na nL nF) hN hi (.inl hln) rfl (fun s5 S5 => ?_) (.inr hln)
    refine wpAny_mono ((hsu a o2 cls d (X.pn ++ pins) z2 ⟨_, d2⟩).run [] s5 _ H' _ S5 (hyes rfl a na)) (fun fl s6 hsp => ?_) (fun _ _ z => z.elim)
    have fin : ∀ {τ : L2.St} {G : Hp} {Q : Shared → Prop}, Inv (X.suite a ((a, o2) :: (X.pn ++ pins))) [] τ G s6 → (∀ s7, Inv X pins (τ.set i none) (upd G a (Kept cls d a)) s7 → Q s7) →
        wpAny (model X.prog X.w) X.A (do bindName X.env n .none; unbindBehindTheSuite X.env n hpos) (fun _ s7 => Q s7) X.xe s6 := fun S6 hq => by
      obtain ⟨h1, h2, _⟩ := S6.pin (a, o2) (List.mem_append_left _ List.mem_cons_self)
      exact gone_ok (track (S6.unsuite ok) ap h2 (kept_ok h1 z2 d2)) hN hi hln hq
    cases fl with
    | next =>
      obtain ⟨τ, G, S6, q6⟩ := hsp
      exact fin S6 fun s7 J7 => ⟨_, _, J7, q6⟩
    | brk =>
      obtain ⟨τ, G, S6, q6⟩ := hsp
      exact fin S6 fun s7 J7 => ⟨_, _, J7, q6⟩
    | cont =>
      obtain ⟨τ, G, S6, q6⟩ := hsp
      exact fin S6 fun s7 J7 => ⟨_, _, J7, q6⟩
    | ret r =>
      obtain ⟨v6, τ, G, S6, r6, q6⟩ := hsp
      exact fin S6 fun s7 J7 => ⟨_, _, _, J7, r6, q6⟩
  | false =>
    refine wpAny_handleBy_nil ?_
    obtain ⟨_, _, _, o3, v3, T, oT, ts', k3, z3, d3, h3, r3⟩ := id fl1
    unfold PySem.passOn
    refine wpAny_bind (wpAny_field k3 d3 h3 ?_)
    rw [if_neg (fun q : (Value.ref T == Value.none) = true => by simp at q)]
    have out : wpAny (model X.prog X.w) X.A (setFlight (.ref a) X.env.frame) (fun _ s4 => wpAny (model X.prog X.w) X.A (throw (.ref a) : Sem Flow) (SP X pins D) X.xe s4) X.xe { s' with heap := g1 } := by
      rw [hf]
      refine HandSPX.setFlight_upZ fl1 fun g2 held up2 => wpAny_throw (tk _ _ ⟨a, B, sI, pins, σ', H', cls, d, rfl, J', nb, (up.trans up1).trans up2, .inr (.inr ?_), na, os, ag, hno rfl⟩)
      rw [hs]
      exact held
    first
      | exact wpAny_bind (wpAny_pure (wpAny_bind out))
      | exact wpAny_bind out
/-- try: body / except x as n: suite, the exception kept -/
theorem ps_try_keep (hs : X.stack = X.env :: X.outer) (hf : X.env.frame = some X.env.locals) (hex : X.ex = []) (hN : X.N.Nodup) (hi : X.N[i]? = some n) (hln : X.env.kindOf n = some .local) (hc : Names X x c) (tk : Takes X Wout)
    (hb : ∀ (W : WX) (pn : List (Addr × Obj)) (xe : Value → Shared → Prop), Takes (X.tr pn xe) W → PassesOwn (model X.prog X.w) X.A X.env xe → PSs (X.tr pn xe) body (tb W))
    (hsu : ∀ (a : Addr) (oe : Obj) (cls : Value) (d : Option Addr) (pn : List (Addr × Obj)), Zc cls d oe → (∃ vs, oe.data = .fields vs) → PSs (X.suite a ((a, oe) :: pn)) (st₀ :: rest) (ts a cls d)) :
    PS X (.Try body [.ExceptHandler (some (.Name x np)) (some n) (st₀ :: rest) hpos] [] [] tpos) (fun D σ H => tb (wKeep X.K c i ts Wout D) D σ H) := by
  refine ⟨fun pins s σ H D I h => ?_⟩
  refine wpAny_Try_except (wpAny_mono ((hb (wKeep X.K c i ts Wout D) (X.pn ++ pins) _ (fun u s' xx => ?_) PassesOwn.looking).run [] s σ H D (I.toTry _) h) (fun fl s1 hsp => ?_) fun _ _ he => he)
  · exact keep_catch I.ok hs hf hex hN hi hln hc tk hsu xx
  · cases fl with
    | next =>
      obtain ⟨τ, G, J, q⟩ := hsp
      exact wpAny_execs_nil ⟨τ, G, J.ofTry I.ok, q⟩
    | brk =>
      obtain ⟨τ, G, J, q⟩ := hsp
      exact ⟨τ, G, J.ofTry I.ok, q⟩
    | cont =>
      obtain ⟨τ, G, J, q⟩ := hsp
      exact ⟨τ, G, J.ofTry I.ok, q⟩
    | ret r =>
      obtain ⟨v, τ, G, J, r1, q⟩ := hsp
      exact ⟨v, τ, G, J.ofTry I.ok, r1, q⟩
end
end QX
end

section
set_option Elab.async false
set_option linter.all false
set_option maxRecDepth 100000
set_option maxHeartbeats 2000000
/-! Qexc2: isinstance of a kept exception, its fields. -/
namespace QX
open PySem PySem.Spec PyProof.Rows L2
/-- its dict, if it has one, is tracked -/
def DictAt (H : Hp) (d : Option Addr) : Prop := d = none ∨ ∃ (dd : Addr) (fs : List (Str × V)), d = some dd ∧ H dd = some (.xd fs)
section
variable {X : Cx} {pins : List (Addr × Obj)} {σ : L2.St} {H : Hp} {s : Shared} {a D : Addr} {d : Option Addr}
theorem kept_inst (I : Inv X pins σ H s) (ha : H a = some (Kept (.ref D) d a)) (hd : DictAt H d) : ∃ (ob : Obj) (od : Option Obj), PySem.W.InstAt s.heap a ob D od := by
  obtain ⟨⟨oc, od, oda, osl⟩, fv, e, ⟨z1, z2⟩, z3⟩ := kept_get I.hok ha
  dsimp only at z1 z2 z3
  subst z1 z2 z3
  rcases hd with rfl | ⟨dd, fs, rfl, hx⟩
  · exact ⟨_, none, e, rfl, rfl, trivial⟩
  · obtain ⟨m, ⟨u, es, ep, hu, _⟩, _⟩ := (show ObjOk X.prog X.w H s.heap dd (.xd fs) from I.hok dd _ hx)
    exact ⟨_, some u, e, rfl, rfl, hu⟩
theorem kept_kit (I : Inv X pins σ H s) (C : ExcC X.K D) (ha : H a = some (Kept (.ref D) d a)) (hd : DictAt H d) : ∃ P : Heap → Prop, PySem.W.KitX X.K (.ref a) (.ref D) P ∧ P s.heap := by
  obtain ⟨ob, od, J⟩ := kept_inst I ha hd
  have hcl : (PySem.W.clsIn X.K D).isSome = true := by
    have h := C.hd
    unfold PySem.W.hasDictIn at h
    cases e : PySem.W.clsIn X.K D with
    | none =>
      rw [e] at h
      cases h
    | some _ => rfl
  exact ⟨_, PySem.W.kitx_exc (od := od) hcl C.hg C.hk C.hs C.ha C.hn C.ht C.hm, J⟩
end
/-- isinstance(e, c), e kept -/
def rIsX (K : PySem.W.Frag) : List V → Hp → VK → Prop := fun xs H Q => ∃ (a D : Addr) (d : Option Addr) (c : V) (u : Value) (b : Bool), xs = [.ref a, c] ∧ H a = some (Kept (.ref D) d a) ∧ DictAt H d ∧ ExcC K D ∧ ClsV c u ∧ PySem.W.kitOne K (.ref D) u = some b ∧ Q (.bl b) H
/-- isinstance(e, (c1, c2, ..)), e kept -/
def rIsXT (K : PySem.W.Frag) : List V → Hp → VK → Prop := fun xs H Q => ∃ (a D tp : Addr) (d : Option Addr) (cs : List V) (us : List Value) (b : Bool), xs = [.ref a, .ref tp] ∧ H a = some (Kept (.ref D) d a) ∧ DictAt H d ∧ ExcC K D ∧ H tp = some (.tup cs) ∧ Paired ClsV cs us ∧ PySem.W.kitAny K (.ref D) us = some b ∧ Q (.bl b) H
section
variable {X : Cx}
theorem call_isX : CallR X (.builtin "isinstance") (rIsX X.K) := by
  intro pins s σ H xs us Q I r ⟨a, D, d, c, u, b, ex, ha, hd, C, hc, e, q⟩
  subst ex
  obtain ⟨w1, w2, rfl, r1, r2⟩ := vals2 r
  cases hc.eq r2
  cases (show w1 = Value.ref a from r1)
  obtain ⟨P, Z, p⟩ := kept_kit I C ha hd
  exact PySem.W.kia_one Z I.kIn p e (fun z => nomatch z) fun tk => ⟨.bl b, H, I.tok tk, rfl, q⟩
theorem call_isXT : CallR X (.builtin "isinstance") (rIsXT X.K) := by
  intro pins s σ H xs us Q I r ⟨a, D, tp, d, cs, ws, b, ex, ha, hd, C, hT, hc, e, q⟩
  subst ex
  obtain ⟨w1, w2, rfl, r1, r2⟩ := vals2 r
  cases (show w1 = Value.ref a from r1)
  cases (show w2 = Value.ref tp from r2)
  obtain ⟨P, Z, p⟩ := kept_kit I C ha hd
  obtain ⟨_, its, rv, ⟨oc, od, dt, sl⟩, h1, h2, n, h3⟩ := (show ObjOk X.prog X.w H s.heap tp (.tup cs) from I.hok tp _ hT)
  cases ClsV.all hc rv
  dsimp only at h2 h3
  subst h2 h3
  exact PySem.W.kia_tup Z I.kIn p h1 e (fun z => nomatch z) fun tk => ⟨.bl b, H, I.tok tk, rfl, q⟩
theorem call_isXK (K : PySem.W.Frag) (h : X.K = K := by rfl) : CallR X (.builtin "isinstance") (rIsX K) := h ▸ call_isX
theorem call_isXTK (K : PySem.W.Frag) (h : X.K = K := by rfl) : CallR X (.builtin "isinstance") (rIsXT K) := h ▸ call_isXT
/-- e.f, e kept -/
def tFx (K : PySem.W.Frag) (f : Str) (te : TE) : TE := fun σ H Q => te σ H fun x H1 => ∃ (a C dd : Addr) (fs : List (Str × V)) (v : V), x = .ref a ∧ H1 a = some (Kept (.ref C) (some dd) a) ∧ XfC K C ∧ PySem.W.findIn K (.ref C) f = some none ∧ H1 dd = some (.xd fs) ∧ fs.lookup f = some v ∧ Q v H1
theorem pe_fx {e : Expr} {te : TE} {f : Str} {pos : Pos} (he : PE X e te) (hb : attributeBase e f X.env (eval e X.env) = eval e X.env) : PE X (.Attribute e f pos) (tFx X.K f te) := by
  refine ⟨fun pins s σ H Q I h => attr_of hb (thn (he.run pins s σ H _ I h) fun u s1 ⟨x, H1, I1, rx, a, C, dd, fs, v, ex, ha, T, hno, hx, hl, q⟩ => ?_)⟩
  subst ex
  cases (show u = Value.ref a from rx)
  obtain ⟨⟨oc, od, oda, osl⟩, fv, k1, ⟨z1, z2⟩, z3⟩ := kept_get I1.hok ha
  dsimp only at z1 z2 z3
  subst z1 z2 z3
  obtain ⟨m, hns, hr⟩ := (show ObjOk X.prog X.w H1 s1.heap dd (.xd fs) from I1.hok dd _ hx)
  obtain ⟨ot, ho, hlk⟩ := lookIn_ns hns
  obtain ⟨u, hu, ru⟩ := RelO.some_of (v := v) (o := m f) (by rw [← hl]; exact hr f)
  exact HandSPX.exc_get I1.kIn (od := some ot) ⟨k1, rfl, rfl, ho⟩ T.ga T.gg T.exC (PySem.W.findObj_own T.hdC hno rfl (by rw [hlk, hu])) (handed_of ru) ⟨v, H1, I1.tok _, ru, q⟩
theorem pe_fxK (K : PySem.W.Frag) {e : Expr} {te : TE} {f : Str} {pos : Pos} (he : PE X e te) (hb : attributeBase e f X.env (eval e X.env) = eval e X.env) (h : X.K = K := by rfl) : PE X (.Attribute e f pos) (tFx K f te) := h ▸ pe_fx he hb
end
end QX
end

section
set_option Elab.async false
set_option linter.all false
set_option maxRecDepth 100000
/-! Qend: from the Hook's facts to the text's. -/
namespace QE
open PySem PySem.Spec PyProof.Rows L2 He
def ownB (K : PySem.W.Frag) (C : Addr) : Bool :=
  (eqO (PySem.W.findIn K (.ref C) "__class__") (some (some (.builtin "object.__class__"))) && (eqO (PySem.W.specialIn K (.builtin "object.__class__") "__get__") (some (some (.builtin "getset_descriptor.__get__"))) &&
  (decide (PySem.W.takesIn K (.builtin "object.__class__") = some true) && decide (PySem.W.mroIn K C (.type "object") = some true)))) &&
  ((["list", "tuple", "str", "int", "bool", "NoneType", "dict"].all fun T => decide (PySem.W.kitOne K (.type T) (.ref C) = some false) && PySem.W.notFirst K C (.type T)) &&
  (["list", "tuple", "str", "int", "bool"].all fun T => decide (PySem.W.kitOne K (.ref C) (.type T) = some false)))
theorem ownB_ok {K : PySem.W.Frag} {C : Addr} (h : ownB K C = true) : QO.OwnC K C := by
  obtain ⟨h1, h2⟩ := ba h
  obtain ⟨a1, h1⟩ := ba h1
  obtain ⟨a2, h1⟩ := ba h1
  obtain ⟨a3, a4⟩ := ba h1
  obtain ⟨h3, h4⟩ := ba h2
  have k1 := fun T (m : T ∈ ["list", "tuple", "str", "int", "bool", "NoneType", "dict"]) => ba (List.all_eq_true.mp h3 T m)
  have k2 := fun T (m : T ∈ ["list", "tuple", "str", "int", "bool"]) => of_decide_eq_true (List.all_eq_true.mp h4 T m)
  have k3 := fun T (m : T ∈ ["list", "tuple", "str", "int", "bool", "NoneType", "dict"]) => of_decide_eq_true (k1 T m).1
  have k4 := fun T (m : T ∈ ["list", "tuple", "str", "int", "bool", "NoneType", "dict"]) => (k1 T m).2
  exact ⟨eqO_ok a1, eqO_ok a2, of_decide_eq_true a3, of_decide_eq_true a4, k3 _ (by simp), k3 _ (by simp), k3 _ (by simp), k3 _ (by simp), k3 _ (by simp), k3 _ (by simp), k3 _ (by simp),
    k2 _ (by simp), k2 _ (by simp), k2 _ (by simp), k2 _ (by simp), k2 _ (by simp), k4 _ (by simp), k4 _ (by simp), k4 _ (by simp), k4 _ (by simp), k4 _ (by simp), k4 _ (by simp), k4 _ (by simp)⟩
theorem funD_fun {K : PySem.W.Frag} {x q : Str} {st : Stmt} {f : Addr} {fd : FuncData} (F : FunD K x q (defArgs st) (defBody st) (defScope st) [] [] f fd) : L2.Fun K x q st f fd := by
  obtain ⟨oc, od, dV, kV, doc, pm, an, cdv, ct, osl, h1, h2, h3, h4, h5⟩ := F.ex
  have e : dV = .none := by
    rcases h4 with ⟨_, h4⟩ | ⟨h4, _⟩
    · exact h4
    · exact absurd rfl h4
  subst e
  exact ⟨⟨oc, od, kV, doc, pm, an, cdv, ct, osl, h1, h2, h3⟩, F.kp⟩
theorem funC_of {K : PySem.W.Frag} {x q : Str} {st : Stmt} {p : Str × Option Str} {fd : FuncData} (F : FunD K x q (defArgs st) (defBody st) (defScope st) [] [] (fAd K p) fd) : QB.FunC K x q st (fAd K p) fd (codeOf K p) := by
  obtain ⟨oc, od, kV, doc, pm, an, cdv, ct, osl, h1, h2, h3⟩ := (funD_fun F).ex
  obtain ⟨c, rfl⟩ := codeIn_ref h3
  have e : codeOf K p = c := codeOf_eq h2 (by rw [h1])
  rw [e]
  exact ⟨⟨oc, od, kV, doc, pm, an, ct, osl, h1, h2, h3⟩⟩
end QE
end

section
set_option Elab.async false
set_option linter.all false
set_option maxRecDepth 100000
set_option maxHeartbeats 2000000
/-! Qcls: the text's own exception classes, from the top's facts. -/
namespace QX
open PySem PySem.Spec PyProof.Rows L2 He
/-- an own exception class whose __init__ (at fI) writes the field f -/
structure ExcT (K : PySem.W.Frag) (C fI : Addr) (f : Str) : Prop where
  oex : OexC K C
  exc : ExcC K C
  xf : XfC K C
  noF : PySem.W.findIn K (.ref C) f = some none
  iC : PySem.W.findIn K (.ref C) "__init__" = some (some (.ref fI))
  tI : PySem.W.typeIn K (.ref fI) = some (.type "function")
/-- the class object is one of an exception class over ValueError -/
def clsB (K : PySem.W.Frag) (C : Addr) : Bool := match K.lookup C with
  | none => false
  | some ob => decide (ob.cls = .type "type") && (match ob.data with
    | .cls r => r.hasDict && (!r.hasDel && ((match r.mro with
      | m :: over => decide (m = .ref C) && PySem.HandSPX.refsVE over
      | [] => false) && (match ob.slots.toList with
      | [_, _, _, _, m, _] => decide (m = some (.builtin "ValueError.__new__"))
      | _ => false)))
    | _ => false)
theorem clsB_ok {K : PySem.W.Frag} {C : Addr} (h : clsB K C = true) : ∃ nm q N bs bm sn sub ab col dd k0 k1 k2 k3 k5, K.lookup C = some (excClassObj nm q C N bs bm true sn sub ab col dd k0 k1 k2 k3 k5 "ValueError.__new__") ∧ PySem.HandSPX.refsVE bm = true := by
  unfold clsB at h
  cases e : K.lookup C with
  | none =>
    rw [e] at h
    cases h
  | some ob =>
    rw [e] at h
    obtain ⟨oc, od, dt, sl⟩ := ob
    obtain ⟨h1, h2⟩ := ba h
    have h1 : oc = .type "type" := of_decide_eq_true h1
    subst h1
    cases dt with
    | cls r =>
      obtain ⟨nm, bs, mro, ns, qn, hd, sn, sub, ab, col, del⟩ := r
      obtain ⟨h3, h2⟩ := ba h2
      obtain ⟨h4, h2⟩ := ba h2
      obtain ⟨h5, h6⟩ := ba h2
      have h3 : hd = true := h3
      have h9 : del = false := by
        have h4 : (!del) = true := h4
        cases del with
        | false => rfl
        | true => cases h4
      clear h4
      subst h3 h9
      cases mro with
      | nil => cases h5
      | cons m over =>
        obtain ⟨h5, h7⟩ := ba h5
        have h5 : m = .ref C := of_decide_eq_true h5
        subst h5
        obtain ⟨l⟩ := sl
        match l, h6 with
        | [k0, k1, k2, k3, m4, k5], h6 =>
          have h6 : m4 = some (.builtin "ValueError.__new__") := of_decide_eq_true h6
          subst h6
          exact ⟨nm, qn, ns, bs, over, sn, sub, ab, col, od, k0, k1, k2, k3, k5, rfl, h7⟩
    | _ => cases h2
def excB (K : PySem.W.Frag) (C : Addr) : Bool :=
  eqO (PySem.W.findIn K (.ref C) "__getattribute__") (some (some (.builtin "BaseException.__getattribute__"))) && (eqO (PySem.W.findIn K (.ref C) "__getattr__") (some none) && (decide (PySem.W.subIn K (.ref C) (.type "BaseException") = some true) && (PySem.W.hasDictIn K C &&
  (eqO (PySem.W.findIn K (.ref C) "__class__") (some (some (.builtin "object.__class__"))) && (eqO (PySem.W.specialIn K (.builtin "object.__class__") "__get__") (some (some (.builtin "getset_descriptor.__get__"))) &&
  (decide (PySem.W.takesIn K (.builtin "object.__class__") = some true) && decide (PySem.W.mroIn K C (.type "object") = some true)))))))
theorem excB_ok {K : PySem.W.Frag} {C : Addr} (h : excB K C = true) : ExcC K C ∧ XfC K C := by
  obtain ⟨h1, h⟩ := ba h
  obtain ⟨h2, h⟩ := ba h
  obtain ⟨h3, h⟩ := ba h
  obtain ⟨h4, h⟩ := ba h
  obtain ⟨h5, h⟩ := ba h
  obtain ⟨h6, h⟩ := ba h
  obtain ⟨h7, h8⟩ := ba h
  exact ⟨⟨eqO_ok h1, eqO_ok h2, of_decide_eq_true h3, h4, eqO_ok h5, eqO_ok h6, of_decide_eq_true h7, of_decide_eq_true h8⟩, ⟨eqO_ok h1, eqO_ok h2, of_decide_eq_true h3, h4⟩⟩
def excTB (K : PySem.W.Frag) (C fI : Addr) (f : Str) : Bool :=
  clsB K C && (excB K C && (eqO (PySem.W.findIn K (.ref C) "__setattr__") (some (some (.builtin "object.__setattr__"))) && (decide (PySem.W.typeIn K (.ref C) = some (.type "type")) && (PySem.W.keepIn K (.ref C) &&
  (eqO (PySem.W.findIn K (.ref C) f) (some none) && (eqO (PySem.W.findIn K (.ref C) "__init__") (some (some (.ref fI))) && decide (PySem.W.typeIn K (.ref fI) = some (.type "function"))))))))
theorem excTB_ok {K : PySem.W.Frag} {C fI : Addr} {f : Str} (h : excTB K C fI f = true) : ExcT K C fI f := by
  obtain ⟨h1, h⟩ := ba h
  obtain ⟨h2, h⟩ := ba h
  obtain ⟨h3, h⟩ := ba h
  obtain ⟨h4, h⟩ := ba h
  obtain ⟨h5, h⟩ := ba h
  obtain ⟨h6, h⟩ := ba h
  obtain ⟨h7, h8⟩ := ba h
  obtain ⟨e1, e2⟩ := excB_ok h2
  exact ⟨⟨clsB_ok h1, eqO_ok h3, e1.hs, of_decide_eq_true h4, h5⟩, e1, e2, eqO_ok h6, eqO_ok h7, of_decide_eq_true h8⟩
/-- an own exception class without __init__ -/
structure ExcU (K : PySem.W.Frag) (C : Addr) : Prop where
  exc : ExcC K C
  tyC : PySem.W.typeIn K (.ref C) = some (.type "type")
  kC : PySem.W.keepIn K (.ref C) = true
def isB (K : PySem.W.Frag) (D C : Addr) (b : Bool) : Bool := decide (PySem.W.kitOne K (.ref D) (.ref C) = some b)
def isTB (K : PySem.W.Frag) (D : Addr) (T : String) (b : Bool) : Bool := decide (PySem.W.kitOne K (.ref D) (.type T) = some b)
def exmB (K : PySem.W.Frag) (D C : Addr) : Bool := decide (PySem.W.exmOne K (.ref D) (.ref C) = some true)
/-! what __init__ of such a class keeps -/
def spExI (K : PySem.W.Frag) (C : Addr) (f : Str) : Sp := fun vs H Q _ => ∃ (a : Addr) (y : V), vs = [.ref a, y] ∧ H a = some (exo a C none) ∧ ∀ dx, H dx = none → dx ≠ a → Q .non (upd (upd H dx (exd dx [(f, y)])) a (exo a C (some dx)))
/-- raise C(e): the reading behind e -/
theorem mkO_of {K : PySem.W.Frag} {C : Addr} {f : Str} {H1 : Hp} {v : V} {Q : XK} (k : ∀ d, H1 d = none → Q (.ref C) (some d) (upd H1 d (.xd [(f, v)]))) :
    ([v] : List V).length ≤ 1000 ∧ ∀ a, H1 a = none → spExI K C f (.ref a :: ([v] ++ [])) (upd H1 a (exo a C none))
      (fun v H2 => v = .non ∧ ∃ (d : Addr) (fs : List (Str × V)), H2 a = some (exo a C (some d)) ∧ H2 d = some (exd d fs) ∧ H1 d = none ∧ Q (.ref C) (some d) (upd (del H2 a) d (.xd fs))) (fun _ _ _ => False) := by
  refine ⟨by show 1 ≤ 1000; decide, fun a ha => ⟨a, v, rfl, upd_same, fun dx hd hne => ⟨rfl, dx, _, upd_same, Eq.trans (upd_ne hne) upd_same, ?_, ?_⟩⟩⟩
  · rw [← hd, upd_ne hne]
  · have hn : H1 dx = none := by rw [← hd, upd_ne hne]
    have e : upd (del (upd (upd (upd H1 a (exo a C none)) dx (exd dx [(f, v)])) a (exo a C (some dx))) a) dx (.xd [(f, v)]) = upd H1 dx (.xd [(f, v)]) := by
      funext b
      by_cases h1 : b = dx
      · subst h1
        rw [upd_same, upd_same]
      · rw [upd_ne h1, upd_ne h1]
        by_cases h2 : b = a
        · subst h2
          rw [del_same, ha]
        · rw [del_ne h2, upd_ne h2, upd_ne h1, upd_ne h2]
    rw [e]
    exact k dx hn
end QX
end

section
set_option Elab.async false
set_option linter.all false
set_option maxRecDepth 100000
set_option maxHeartbeats 2000000
/-! Qval: any plain values as data (an empty dict among them), read off the tracked heap; repr of them; a class made in a suite that may raise. -/
namespace QV
open PySem PySem.Spec PyProof.Rows L2 QB
mutual
/-- a value that is this data, each part of it tracked -/
inductive Dv (H : Hp) : V → PyData → Prop
  | non : Dv H .non .none
  | bl (b : Bool) : Dv H (.bl b) (.bool b)
  | int (i : Int) : Dv H (.int i) (.int i)
  | str (x : Str) : Dv H (.str x) (.str x)
  | lst {a : Addr} {xs : List V} {ds : List PyData} : H a = some (.lst xs) → DvAll H xs ds → Dv H (.ref a) (.list ds)
  | tup {a : Addr} {xs : List V} {ds : List PyData} : H a = some (.tup xs) → DvAll H xs ds → Dv H (.ref a) (.tuple ds)
  | dct {a : Addr} : H a = some (.dK []) → Dv H (.ref a) (.dict [])
inductive DvAll (H : Hp) : List V → List PyData → Prop
  | nil : DvAll H [] []
  | cons {v : V} {vs : List V} {d : PyData} {ds : List PyData} : Dv H v d → DvAll H vs ds → DvAll H (v :: vs) (d :: ds)
end
def tyD : PyData → Value
  | .none => .type "NoneType"
  | .bool _ => .type "bool"
  | .int _ => .type "int"
  | .str _ => .type "str"
  | .list _ => .type "list"
  | .tuple _ => .type "tuple"
  | .dict _ => .type "dict"
def isSD : PyData → Bool
  | .str _ => true
  | _ => false
def isLD : PyData → Bool
  | .list _ => true
  | _ => false
def isTD : PyData → Bool
  | .tuple _ => true
  | _ => false
def isID : PyData → Bool
  | .int _ => true
  | .bool _ => true
  | _ => false
def isBD : PyData → Bool
  | .bool _ => true
  | _ => false
theorem Dv.ty (K : PySem.W.Frag) {H : Hp} {v : V} {d : PyData} (h : Dv H v d) : TyX K H v (tyD d) := by
  cases h with
  | non => exact .base .non
  | bl b => exact .base (.bl b)
  | int i => exact .base (.int i)
  | str x => exact .base (.str x)
  | lst h _ => exact .base (.lst h)
  | tup h _ => exact .base (.tup h)
  | dct h => exact .base (.dK h)
section
variable {K : PySem.W.Frag}
theorem kit_s : ∀ d : PyData, PySem.W.kitOne K (tyD d) (.type "str") = some (isSD d)
  | .none => kit_ty (show kitB "NoneType" "str" = some false by decide +kernel)
  | .bool _ => kit_ty (show kitB "bool" "str" = some false by decide +kernel)
  | .int _ => kit_ty (show kitB "int" "str" = some false by decide +kernel)
  | .str _ => kit_ty (show kitB "str" "str" = some true by decide +kernel)
  | .list _ => kit_ty (show kitB "list" "str" = some false by decide +kernel)
  | .tuple _ => kit_ty (show kitB "tuple" "str" = some false by decide +kernel)
  | .dict _ => kit_ty (show kitB "dict" "str" = some false by decide +kernel)
theorem kit_l : ∀ d : PyData, PySem.W.kitOne K (tyD d) (.type "list") = some (isLD d)
  | .none => kit_ty (show kitB "NoneType" "list" = some false by decide +kernel)
  | .bool _ => kit_ty (show kitB "bool" "list" = some false by decide +kernel)
  | .int _ => kit_ty (show kitB "int" "list" = some false by decide +kernel)
  | .str _ => kit_ty (show kitB "str" "list" = some false by decide +kernel)
  | .list _ => kit_ty (show kitB "list" "list" = some true by decide +kernel)
  | .tuple _ => kit_ty (show kitB "tuple" "list" = some false by decide +kernel)
  | .dict _ => kit_ty (show kitB "dict" "list" = some false by decide +kernel)
theorem kit_t : ∀ d : PyData, PySem.W.kitOne K (tyD d) (.type "tuple") = some (isTD d)
  | .none => kit_ty (show kitB "NoneType" "tuple" = some false by decide +kernel)
  | .bool _ => kit_ty (show kitB "bool" "tuple" = some false by decide +kernel)
  | .int _ => kit_ty (show kitB "int" "tuple" = some false by decide +kernel)
  | .str _ => kit_ty (show kitB "str" "tuple" = some false by decide +kernel)
  | .list _ => kit_ty (show kitB "list" "tuple" = some false by decide +kernel)
  | .tuple _ => kit_ty (show kitB "tuple" "tuple" = some true by decide +kernel)
  | .dict _ => kit_ty (show kitB "dict" "tuple" = some false by decide +kernel)
theorem kit_i : ∀ d : PyData, PySem.W.kitOne K (tyD d) (.type "int") = some (isID d)
  | .none => kit_ty (show kitB "NoneType" "int" = some false by decide +kernel)
  | .bool _ => kit_ty (show kitB "bool" "int" = some true by decide +kernel)
  | .int _ => kit_ty (show kitB "int" "int" = some true by decide +kernel)
  | .str _ => kit_ty (show kitB "str" "int" = some false by decide +kernel)
  | .list _ => kit_ty (show kitB "list" "int" = some false by decide +kernel)
  | .tuple _ => kit_ty (show kitB "tuple" "int" = some false by decide +kernel)
  | .dict _ => kit_ty (show kitB "dict" "int" = some false by decide +kernel)
theorem kit_b : ∀ d : PyData, PySem.W.kitOne K (tyD d) (.type "bool") = some (isBD d)
  | .none => kit_ty (show kitB "NoneType" "bool" = some false by decide +kernel)
  | .bool _ => kit_ty (show kitB "bool" "bool" = some true by decide +kernel)
  | .int _ => kit_ty (show kitB "int" "bool" = some false by decide +kernel)
  | .str _ => kit_ty (show kitB "str" "bool" = some false by decide +kernel)
  | .list _ => kit_ty (show kitB "list" "bool" = some false by decide +kernel)
  | .tuple _ => kit_ty (show kitB "tuple" "bool" = some false by decide +kernel)
  | .dict _ => kit_ty (show kitB "dict" "bool" = some false by decide +kernel)
end
section
variable {T : List (Addr × Str)} {H H' : Hp}
mutual
/-- what isn't a table stays -/
theorem Dv.keep (k : ∀ p o, H p = some o → (∀ ps, o ≠ .tbl ps) → H' p = some o) : ∀ (d : PyData) (v : V), Dv H v d → Dv H' v d
  | .none, _, h => by
    cases h
    exact .non
  | .bool b, _, h => by
    cases h
    exact .bl b
  | .int i, _, h => by
    cases h
    exact .int i
  | .str x, _, h => by
    cases h
    exact .str x
  | .list ds, _, h => by
    cases h with
    | lst h1 h2 => exact .lst (k _ _ h1 fun _ z => nomatch z) (DvAll.keep k ds _ h2)
  | .tuple ds, _, h => by
    cases h with
    | tup h1 h2 => exact .tup (k _ _ h1 fun _ z => nomatch z) (DvAll.keep k ds _ h2)
  | .dict _, _, h => by
    cases h with
    | dct h1 => exact .dct (k _ _ h1 fun _ z => nomatch z)
theorem DvAll.keep (k : ∀ p o, H p = some o → (∀ ps, o ≠ .tbl ps) → H' p = some o) : ∀ (ds : List PyData) (vs : List V), DvAll H vs ds → DvAll H' vs ds
  | [], _, h => by
    cases h
    exact .nil
  | d :: ds, _, h => by
    cases h with
    | cons h1 h2 => exact .cons (Dv.keep k d _ h1) (DvAll.keep k ds _ h2)
end
theorem Dv.ext {v : V} {d : PyData} (h : Dv H v d) (x : QB.Ext T H H') : Dv H' v d := Dv.keep (fun _ _ e n => x.get e n) d v h
theorem Dv.same {v : V} {d : PyData} (h : Dv H v d) (x : Same H H') : Dv H' v d := Dv.keep (fun _ _ e _ => x _ _ e) d v h
theorem DvAll.ext {vs : List V} {ds : List PyData} (h : DvAll H vs ds) (x : QB.Ext T H H') : DvAll H' vs ds := DvAll.keep (fun _ _ e n => x.get e n) ds vs h
theorem DvAll.same {vs : List V} {ds : List PyData} (h : DvAll H vs ds) (x : Same H H') : DvAll H' vs ds := DvAll.keep (fun _ _ e _ => x _ _ e) ds vs h
theorem DvAll.len : ∀ {vs : List V} {ds : List PyData}, DvAll H vs ds → ds.length = vs.length
  | _, _, .nil => rfl
  | _, _, .cons _ h => by rw [List.length_cons, List.length_cons, DvAll.len h]
theorem DvAll.app : ∀ {xs ys : List V} {ds es : List PyData}, DvAll H xs ds → DvAll H ys es → DvAll H (xs ++ ys) (ds ++ es)
  | _, _, _, _, .nil, h => h
  | _, _, _, _, .cons h1 h2, h => .cons h1 (DvAll.app h2 h)
theorem DvAll.get : ∀ {vs : List V} {ds : List PyData} {i : Nat} {v : V}, DvAll H vs ds → vs[i]? = some v → ∃ d, ds[i]? = some d ∧ Dv H v d
  | _, _, i, _, .nil, e => by simp at e
  | _, _, 0, _, .cons h _, e => by
    simp at e
    subst e
    exact ⟨_, rfl, h⟩
  | _, _, i + 1, _, .cons _ h, e => by
    rw [List.getElem?_cons_succ] at e
    obtain ⟨d, q, r⟩ := DvAll.get h e
    exact ⟨d, by rw [List.getElem?_cons_succ]; exact q, r⟩
theorem DvAll.take : ∀ {vs : List V} {ds : List PyData} (i : Nat), DvAll H vs ds → DvAll H (vs.take i) (ds.take i)
  | _, _, i, .nil => by
    rw [List.take_nil, List.take_nil]
    exact .nil
  | _, _, 0, .cons _ _ => .nil
  | _, _, i + 1, .cons h1 h2 => .cons h1 (DvAll.take i h2)
theorem DvAll.drop : ∀ {vs : List V} {ds : List PyData} (i : Nat), DvAll H vs ds → DvAll H (vs.drop i) (ds.drop i)
  | _, _, i, .nil => by
    rw [List.drop_nil, List.drop_nil]
    exact .nil
  | _, _, 0, .cons h1 h2 => .cons h1 h2
  | _, _, i + 1, .cons _ h2 => DvAll.drop i h2
theorem DvAll.rep {v : V} {d : PyData} (h : Dv H v d) : ∀ n : Nat, DvAll H (List.replicate n v) (List.replicate n d)
  | 0 => .nil
  | n + 1 => by
    rw [List.replicate_succ, List.replicate_succ]
    exact .cons h (DvAll.rep h n)
theorem DvAll.strs : ∀ wd : List Str, DvAll H (wd.map V.str) (wd.map PyData.str)
  | [] => .nil
  | t :: wd => .cons (.str t) (DvAll.strs wd)
theorem DvAll.set : ∀ {vs : List V} {ds : List PyData} (i : Nat) {v : V} {d : PyData}, DvAll H vs ds → Dv H v d → DvAll H (vs.set i v) (ds.set i d)
  | _, _, _, _, _, .nil, _ => .nil
  | _, _, 0, _, _, .cons _ h2, h => .cons h h2
  | _, _, i + 1, _, _, .cons h1 h2, h => .cons h1 (DvAll.set i h2 h)
theorem DvAll.mem : ∀ {vs : List V} {ds : List PyData} {v : V}, DvAll H vs ds → v ∈ vs → ∃ d ∈ ds, Dv H v d
  | _, _, _, .cons (d := d) h1 h2, hm => by
    rcases List.mem_cons.mp hm with rfl | hm
    · exact ⟨d, List.mem_cons_self, h1⟩
    · obtain ⟨e, he, q⟩ := DvAll.mem h2 hm
      exact ⟨e, List.mem_cons_of_mem _ he, q⟩
end
/-! repr -/
/-- data that repr writes without passing a line -/
structure Shows (d : PyData) : Prop where
  few : d.leavesShort 30 = true
  show_ : d.showable = true
  weight : d.weight ≤ 100000
  deep : d.depth ≤ 40
theorem Shows.size {d : PyData} (s : Shows d) : d.shown.length ≤ sizeLine := by
  have h := PyData.shown_le 30 (by decide) d s.few
  have w := s.weight
  rw [sizeLine_eq]
  omega
section
variable {X : Cx} {pins : List (Addr × Obj)} {σ : L2.St} {H : Hp} {s : Shared}
theorem notMods (I : Inv X pins σ H s) (hB : ∃ mm, X.base.Ns sysModules mm) {a : Addr} {o : HO} (h : H a = some o) : sysModules ≠ a := fun e => by
  obtain ⟨mm, u, es, ep, eu, _⟩ := hB
  have := (I.bs _ _ eu).2
  rw [e, h] at this
  cases this
mutual
theorem Dv.reads (I : Inv X pins σ H s) (hB : ∃ mm, X.base.Ns sysModules mm) : ∀ (d : PyData) (v : V) (u : Value), Dv H v d → RelV v u → ∃ as, Reads s.heap u d as ∧ sysModules ∉ as
  | .none, _, _, h, r => by
    cases h
    cases r
    exact ⟨_, .none, List.not_mem_nil⟩
  | .bool b, _, _, h, r => by
    cases h
    cases r
    exact ⟨_, .bool b, List.not_mem_nil⟩
  | .int i, _, _, h, r => by
    cases h
    obtain ⟨t, rfl⟩ := r
    exact ⟨_, .int i t, List.not_mem_nil⟩
  | .str x, _, _, h, r => by
    cases h
    obtain ⟨t, rfl⟩ := r
    exact ⟨_, .str x t, List.not_mem_nil⟩
  | .list ds, _, _, h, r => by
    cases h with
    | lst hs ha =>
      cases r
      obtain ⟨its, rv, ⟨o, n, ho, hc, _, hd⟩, _⟩ := I.list (SqL.of hs)
      obtain ⟨as, hr, ns⟩ := DvAll.reads I hB ds _ its ha rv
      exact ⟨_, .list ho hc hd hr, fun z => (List.mem_cons.mp z).elim (notMods I hB hs) ns⟩
  | .tuple ds, _, _, h, r => by
    cases h with
    | tup hs ha =>
      cases r
      obtain ⟨its, rv, ⟨o, ho, hc, n, hd⟩, _⟩ := I.tuple (SqT.of hs)
      obtain ⟨as, hr, ns⟩ := DvAll.reads I hB ds _ its ha rv
      exact ⟨_, .tuple ho hc hd hr, ns⟩
  | .dict _, _, _, h, r => by
    cases h with
    | @dct a hs =>
      cases r
      obtain ⟨_, hn, vs, kv, o, es, ep, ho, hx, hd, _, hp, _⟩ := dk_of I.hok hs
      cases kv
      have he : es.toList = [] := by
        cases hl : es.toList with
        | nil => rfl
        | cons x r =>
          rw [hl] at hp
          cases hp
      refine ⟨_, .dict (kvs := []) (as := []) (bs := []) ho hx.1 hd (by rw [he]; exact .nil) (by rw [he]; exact .nil), fun z => ?_⟩
      rcases List.mem_cons.mp z with z | z
      · exact notMods I hB hs z
      · exact List.not_mem_nil z
theorem DvAll.reads (I : Inv X pins σ H s) (hB : ∃ mm, X.base.Ns sysModules mm) : ∀ (ds : List PyData) (vs : List V) (us : List Value), DvAll H vs ds → Vals vs us → ∃ as, ReadsAll s.heap us ds as ∧ sysModules ∉ as
  | [], _, _, h, r => by
    cases h
    cases r
    exact ⟨_, .nil, List.not_mem_nil⟩
  | d :: ds, _, _, h, r => by
    cases h with
    | cons h1 h2 =>
      cases r with
      | cons r1 r2 =>
        obtain ⟨as, q1, n1⟩ := Dv.reads I hB d _ _ h1 r1
        obtain ⟨bs, q2, n2⟩ := DvAll.reads I hB ds _ _ h2 r2
        exact ⟨_, .cons q1 q2, fun z => (List.mem_append.mp z).elim n1 n2⟩
end
end
def rReprV : List V → Hp → VK → Prop := fun xs H Q => ∃ (v : V) (d : PyData) (a : Addr), xs = [v] ∧ v = .ref a ∧ Dv H v d ∧ Shows d ∧ Q (.str d.shown) H
section
variable {X : Cx}
theorem call_reprV (hg : X.A.guards = some []) (hu : X.A.units + 64 < cLine) (hB : ∃ mm, X.base.Ns sysModules mm) : CallR X (.builtin "repr") rReprV := by
  intro pins s σ H xs us Q I r ⟨v, d, a, ex, ev, hd, sh, q⟩
  subst ex ev
  obtain ⟨u, rfl, ru⟩ := vals1 r
  have hdp := sh.deep
  obtain ⟨as, rd, ns⟩ := Dv.reads I hB d _ u hd ru
  cases ru
  exact repr_of_reads' rd sh.show_ (fun _ => ns) hg (by omega) (fun _ _ z => z) (fun h' t tk hk => ⟨.str d.shown, H, I.kept (t' := tk) hk, ⟨t, rfl⟩, q⟩) sh.size
end
/-! a class made in a suite that may raise -/
section
variable {X : Cx} {CX : CXT} {k : Nat} {f C : Addr} {fd : FuncData} {ps : List Str} {sp : Sp} {dvs : List V} {ds : List Value} {E : L2.St → XK} {x : Str} {p pos : Pos} {e : Expr} {es : List Expr} {t : TA}
def tMakeS (C : Addr) (sp : Sp) (dvs : List V) (E : L2.St → XK) (t : TA) : TE := fun σ H Q => t σ H fun vs G => ∀ o dx, G o = none → G dx = none → dx ≠ o →
  sp (.ref o :: (vs ++ dvs)) (upd (upd G dx (.own o)) o (.ins C dx [])) (fun r G2 => r = .non ∧ Q (.ref o) G2) (E σ)
theorem mk_run {pins : List (Addr × Obj)} {σ : L2.St} {H : Hp} {s : Shared} {Q : VK} {us : List Value} {vs : List V} (cm : Mk X.K C f) (fn : FnOk X.prog X.w X.K X.mg X.base CX k f fd ps sp) (room : Room (k + 1) X.A) (bi : Binds X.K fd ps ds) (dv : Vals dvs ds)
    (px : PassesAt CX X σ (E σ)) (inv : Inv X pins σ H s) (rel : Vals vs us)
    (go : ∀ o dx, H o = none → H dx = none → dx ≠ o → sp (.ref o :: (vs ++ dvs)) (upd (upd H dx (.own o)) o (.ins C dx [])) (fun r G2 => r = .non ∧ Q (.ref o) G2) (E σ)) :
    wpAny (model X.prog X.w) X.A (call (.ref C) us) (EP X pins σ Q) X.xe s := by
  have new1 : H (s.heap.objs.size + 1) = none := inv.hok.fresh (by omega)
  have new0 : H s.heap.objs.size = none := inv.hok.fresh (by omega)
  have said := go _ _ new1 new0 (show s.heap.objs.size ≠ s.heap.objs.size + 1 by omega)
  have inv2 := Inv.made (C := C) inv
  have rel2 : Vals (V.ref (s.heap.objs.size + 1) :: (vs ++ dvs)) (Value.ref (s.heap.objs.size + 1) :: (us ++ ds)) := .cons rfl (rel.append dv)
  have many : (Value.ref (s.heap.objs.size + 1) :: us ++ ds).length = ps.length := by
    have := rel2.length
    rw [fn.len _ _ _ _ said] at this
    exact this.symm
  have ran := fn.run _ X.stack _ _ ⟨Value.ref (s.heap.objs.size + 1) :: us, []⟩ (Value.ref (s.heap.objs.size + 1) :: (us ++ ds)) _ _ (E σ) (room.make C us []) (inv2.env0.make C us []) (bi _ (Value.ref (s.heap.objs.size + 1) :: us) inv2.kIn many) rel2 said
  refine wpAny_call (make_map (f := f) inv.kIn cm.makes cm.init (beq_iff_eq.mp cm.fn) (codeAny_mono ran fun out s' got => ?_))
  cases out with
  | error err => exact px pins _ _ err s' inv2 got
  | ok way =>
    cases way with
    | ret u =>
      have done := inv2.after got
      obtain ⟨v, G, inv3, rv, ev, q⟩ := done
      subst ev
      exact ⟨rv, ⟨V.ref (s.heap.objs.size + 1), G, inv3, rfl, q⟩⟩
    | _ => exact False.elim got
theorem pe_makeS (cm : Mk X.K C f) (fn : FnOk X.prog X.w X.K X.mg X.base CX k f fd ps sp) (room : Room (k + 1) X.A) (gl : Gl X x) (mgx : X.mg x = some (.ref C)) (bi : Binds X.K fd ps ds) (dv : Vals dvs ds) (px : ∀ σ, PassesAt CX X σ (E σ))
    (args : PA X (e :: es) t) (nd : (x == ("__debug__" : Str)) = false := by decide) (st : starEach (e :: es) X.env = (false, eval e X.env) :: starEach es X.env := by rfl) (pl : (backTo pos (starEach es X.env)).any (·.1) = false := by rfl) :
    PE X (.Call (.Name x p) (e :: es) [] pos) (tMakeS C sp dvs E t) := by
  refine ⟨fun pins s σ H Q inv said => wpAny_Call_Name_kw (ld_glob inv gl mgx ?_ nd)⟩
  have := args.run pos pins s σ H _ inv said
  exact PySem.W.callWith_K (h₀ := X.base) inv.ok.mod.kin cm.kp (thn this fun us s1 ⟨vs, G, inv1, rel, q⟩ => ⟨inv1.kIn, mk_run cm fn room bi dv (px σ) inv1 rel q⟩) st pl
end
/-! a list beside an empty one -/
def rNil (neg : Bool) : R2 := fun x y H Q => ∃ (p q : Addr) (xs : List V), x = .ref p ∧ y = .ref q ∧ H p = some (.lst xs) ∧ H q = some (.lst []) ∧ Q (.bl (if neg then !xs.isEmpty else xs.isEmpty)) H
section
variable {X : Cx}
theorem op_eqNil (hu : X.A.units + 64 < cLine) : OpR X (compareOp .Eq) (rNil false) := by
  intro pins s σ H x y v u Q I rx ry ⟨p, q, xs, ex, ey, h1, h2, k⟩
  subst ex ey
  cases rx
  cases ry
  obtain ⟨its, rv, pl, _⟩ := I.list (SqL.of h1)
  obtain ⟨its2, rv2, pl2, _⟩ := I.list (SqL.of h2)
  cases rv2
  cases rv with
  | nil => exact SeqAt.RcAt.lists pl.isList pl2.isList rfl (by omega) (e := fun _ => true) (fun j h => absurd h (Nat.not_lt_zero _)) _ _ _ _ ⟨.bl true, H, I, rfl, k⟩
  | cons _ _ => exact SeqAt.RcAt.lists_lengths pl.isList pl2.isList (by simp) (by omega) _ _ _ _ ⟨.bl false, H, I, rfl, k⟩
theorem op_neNil (hu : X.A.units + 64 < cLine) : OpR X (compareOp .NotEq) (rNil true) := by
  intro pins s σ H x y v u Q I rx ry ⟨p, q, xs, ex, ey, h1, h2, k⟩
  subst ex ey
  cases rx
  cases ry
  obtain ⟨its, rv, pl, _⟩ := I.list (SqL.of h1)
  obtain ⟨its2, rv2, pl2, _⟩ := I.list (SqL.of h2)
  cases rv2
  cases rv with
  | nil => exact SeqAt.RcNeAt.lists pl.isList pl2.isList rfl (by omega) (e := fun _ => true) (fun j h => absurd h (Nat.not_lt_zero _)) _ _ _ _ ⟨.bl false, H, I, rfl, k⟩
  | cons _ _ => exact SeqAt.RcNeAt.lists_lengths pl.isList pl2.isList (by simp) (by omega) _ _ _ _ ⟨.bl true, H, I, rfl, k⟩
end
/-- 'a' * 9 -/
def nine : Str := ⟨(List.replicate (9 : Int).toNat (Str.ofString "a").cps).foldl (· ++ ·) #[]⟩
theorem op_mul9 {X : Cx} : OpR X (binaryOp .Mult) (fun x y H Q => x = .str (Str.ofString "a") ∧ y = .int 9 ∧ Q (.str nine) H) := by
  intro pins s σ H x y v u Q I rx ry ⟨ex, ey, q⟩
  subst ex ey
  obtain ⟨t, rfl⟩ := (show ∃ t, v = Value.str (Str.ofString "a") t from rx)
  obtain ⟨t', rfl⟩ := (show ∃ t, u = Value.int 9 t from ry)
  refine PySem.P.mul_str (by decide) (fun _ _ => by decide +kernel) (fun _ _ => by decide +kernel) ?_
  rw [if_neg (by decide), if_neg (by decide +kernel)]
  exact ⟨by decide +kernel, ⟨.str nine, H, I.tok _, ⟨_, rfl⟩, q⟩⟩
theorem bo_repr : bootBuiltins (Str.ofString "repr") = some (.builtin "repr") := by decide +kernel
end QV
end

section
set_option Elab.async false
set_option linter.all false
set_option maxRecDepth 100000
set_option maxHeartbeats 2000000
/-! Qtop2: the law called from the top, where nothing is being written by repr and the modules stand in their place. -/
namespace QT
open PySem PySem.Spec PyProof.Rows L2 LamX
/-- the law's promise, asked of the caller's surroundings alone -/
def RunG (P : Program) (w : World) (K : PySem.W.Frag) (mg : Str → Option Value) (base : Heap) (CX : CXT) (fa : Addr) (fd : FuncData) (x : Str) (sp : Sp) : Prop :=
  ∀ (s : Shared) (H : Hp) (u : Value) (v : V) (Q : VK) (E : XK), Env0 P w K mg base callerA [] s H → BindsTo s fd ⟨[u], []⟩ [(x, u)] → RelV v u → sp [v] H Q E → codeAny (model P w) callerA (.call (.ref fa) ⟨[u], []⟩) (CR CX [] P w H s Q E) s
section
variable {P : Program} {w : World} {K : PySem.W.Frag} {mg mb : Str → Option Value} {CX : CXT} {fa a : Addr} {cs : List (Addr × Addr)} {fd : FuncData} {x : Str} {sp : Sp} {s₁ : Shared} {vs : List Value} {ns : List Int}
abbrev tabO : Obj := { cls := .none, data := .fields #[] }
abbrev lstO (vs : List Value) : Obj := { cls := .type "list", data := .seq vs.toArray }
open Classical in
/-- what is tracked at the start: the script, where it isn't written by the top, and the tables -/
noncomputable def H0 (K : PySem.W.Frag) (cs : List (Addr × Addr)) (vs : List Value) (ns : List Int) (a : Addr) : Hp := fun b =>
  if b = a ∧ K.lookup a = none then some (.frz (lstO vs) (.lst (ns.map V.int))) else if b ∈ cs.map (·.2) then some (.tbl #[]) else none
theorem h0_or {b : Addr} : (b = a ∧ K.lookup a = none ∧ H0 K cs vs ns a b = some (.frz (lstO vs) (.lst (ns.map V.int)))) ∨ (b ∈ cs.map (·.2) ∧ H0 K cs vs ns a b = some (.tbl #[])) ∨ H0 K cs vs ns a b = none := by
  unfold H0
  by_cases h1 : b = a ∧ K.lookup a = none
  · exact .inl ⟨h1.1, h1.2, if_pos h1⟩
  · rw [if_neg h1]
    by_cases h2 : b ∈ cs.map (·.2)
    · exact .inr (.inl ⟨h2, if_pos h2⟩)
    · exact .inr (.inr (if_neg h2))
theorem law_callG (KX : K.In s₁.heap) (hns : s₁.heap.Ns mainGlobals mg) (hb : s₁.heap.Ns builtinsNs mb) (hbb : ∀ x : Str, x ≠ "__name__" → mb x = bootBuiltins x) (hlim : s₁.heap.NoLimit) (hg : s₁.gens = #[])
    (hT : ∀ p ∈ cs, s₁.heap.get? p.2 = some tabO) (nT : ∀ p ∈ cs, K.lookup p.2 = none) (C : ∀ p ∈ cs, PySem.W.CodeHd s₁.heap p.1 p.2)
    (hbm : ∃ (bm : Addr) (ob : Obj), mg "__builtins__" = some (.ref bm) ∧ bm ≠ builtinsNs ∧ s₁.heap.get? bm = some ob ∧ ob.cls = .type "module" ∧ ob.dict = some builtinsNs ∧ ob.data = .plain)
    (ha : s₁.heap.get? a = some (lstO vs)) (hi : IntsAre vs ns) (hl : ns.length ≤ sizeLine)
    (hmm : ∃ mm, s₁.heap.Ns sysModules mm) (F : ∀ base : Heap, K.In base → base.Ns mainGlobals mg → (∃ mm, base.Ns sysModules mm) → (∀ p ∈ cs, TabB base mg p.1 p.2) → RunG P w K mg base CX fa fd x sp) (hbind : ∀ (s : Shared) (u : Value), BindsTo s fd ⟨[u], []⟩ [(x, u)])
    (hsp : ∀ H : Hp, (∀ p ∈ cs, H p.2 = some (.tbl #[])) → SqL K H a (ns.map V.int) → sp [.ref a] H (fun v _ => v = .bl true) fun _ _ _ => False)
    (hCX : ∀ H e s', CX [] H s₁ (fun _ _ _ => False) e s' → False) :
    codeAny (model P w) callerA (.call (.ref fa) ⟨[.ref a], []⟩) (fun r s' => r = .ok (.ret (.bool true)) ∧ OldK s₁.heap s'.heap ∧ s'.os = s₁.os ∧ AllBare s'.gens) s₁ := by
  have rv := vals_ints hi
  have hvl : vs.length = ns.length := hi.length
  have tabs : ∀ {b : Addr}, b ∈ cs.map (·.2) → ∃ p ∈ cs, p.2 = b ∧ s₁.heap.get? b = some tabO := fun hb => by
    obtain ⟨p, hp, rfl⟩ := List.mem_map.mp hb
    exact ⟨p, hp, rfl, hT p hp⟩
  have aT : a ∉ cs.map (·.2) := fun hm => by
    obtain ⟨_, _, _, e⟩ := tabs hm
    rw [ha] at e
    have e2 := congrArg Obj.data (Option.some.inj e)
    cases e2
  have hTab : ∀ p ∈ cs, H0 K cs vs ns a p.2 = some (.tbl #[]) := fun p hp => by
    have hm : p.2 ∈ cs.map (·.2) := List.mem_map.mpr ⟨p, hp, rfl⟩
    rcases h0_or (K := K) (cs := cs) (vs := vs) (ns := ns) (a := a) (b := p.2) with ⟨e, _⟩ | ⟨_, h⟩ | h
    · exact absurd (e ▸ hm) aT
    · exact h
    · unfold H0 at h
      rw [if_neg (fun q : p.2 = a ∧ K.lookup a = none => aT (q.1 ▸ hm)), if_pos hm] at h
      cases h
  have hSq : SqL K (H0 K cs vs ns a) a (ns.map V.int) := by
    cases hk : K.lookup a with
    | none => exact .inl (.inr ⟨lstO vs, by unfold H0; rw [if_pos ⟨rfl, hk⟩]⟩)
    | some o =>
      have e := KX a o hk
      rw [ha] at e
      cases e
      exact .inr ⟨_, vs.toArray, _, hk, rfl, rfl, rfl, by rw [List.size_toArray, hvl]; exact hl, by simpa using rv⟩
  have hOk : HOk P w (H0 K cs vs ns a) s₁.heap := fun b u hu => by
    rcases h0_or (K := K) (cs := cs) (vs := vs) (ns := ns) (a := a) (b := b) with ⟨rfl, _, h⟩ | ⟨hm, h⟩ | h
    · rw [h] at hu
      cases hu
      exact ⟨ha, by rw [List.length_map]; exact hl, vs, _, rv, ha⟩
    · rw [h] at hu
      cases hu
      obtain ⟨_, _, _, e⟩ := tabs hm
      exact e
    · rw [h] at hu
      cases hu
  -- what is neither the script nor a table stays in sight
  have free : ∀ {b : Addr} {o : Obj}, s₁.heap.get? b = some o → (∀ k m, o.data ≠ .seq k m) → o.data ≠ .fields #[] → H0 K cs vs ns a b = none := fun {b o} e h1 h2 => by
    rcases h0_or (K := K) (cs := cs) (vs := vs) (ns := ns) (a := a) (b := b) with ⟨rfl, _⟩ | ⟨hm, _⟩ | h
    · rw [ha] at e
      cases e
      exact absurd rfl (h1 _ _)
    · obtain ⟨_, _, _, q⟩ := tabs hm
      rw [q] at e
      cases e
      exact absurd rfl h2
    · exact h
  generalize hH : H0 K cs vs ns a = H at hTab hSq hOk free
  have sight : ∀ {b : Addr} {o : Obj}, s₁.heap.get? b = some o → H b = none → (hidT s₁.heap H).get? b = some o := fun e n => hidT_get e n
  have names : ∀ {b : Addr} {m : Str → Option Value}, s₁.heap.Ns b m → (hidT s₁.heap H).Ns b m := fun {b m} ⟨o, es, ep, e, d, r⟩ => ⟨o, es, ep, sight e (free e (fun k m z => by rw [d] at z; cases z) (fun z => by rw [d] at z; cases z)), d, r⟩
  have kept : K.In (hidT s₁.heap H) := fun b o e => sight (KX b o e) (by
    rcases h0_or (K := K) (cs := cs) (vs := vs) (ns := ns) (a := a) (b := b) with ⟨rfl, n, _⟩ | ⟨hm, _⟩ | h
    · rw [e] at n
      cases n
    · obtain ⟨p, hp, rfl, _⟩ := tabs hm
      rw [nT p hp] at e
      cases e
    · rw [← hH]
      exact h)
  have tabB : ∀ p ∈ cs, TabB (hidT s₁.heap H) mg p.1 p.2 := fun p hp => by
    have here := hT p hp
    refine ⟨?_, ?_, fun z => ?_⟩
    · obtain ⟨o, us, file, tf, flags, tg, inF, text, tt, e, q1, q2, q3, q⟩ := C p hp
      refine ⟨o, us, file, tf, flags, tg, inF, text, tt, sight e (free e (fun k m z => ?_) fun z => ?_), q1, q2, q3, q⟩
      · rw [q2] at z
        cases z
      · rw [q2] at z
        cases z
        simp at q3
    · obtain ⟨bm, ob, b1, b2, b3, b4, b5, b6⟩ := hbm
      refine ⟨bm, ob, b1, b2, fun z => ?_, fun z => ?_, sight b3 (free b3 (fun k m z => ?_) fun z => ?_), b4, b5, b6⟩
      · obtain ⟨o, es, ep, e, hd, _⟩ := hns
        rw [← z, b3] at e
        cases e
        rw [b6] at hd
        cases hd
      · rw [z, here] at b3
        cases b3
        cases b6
      · rw [b6] at z
        cases z
      · rw [b6] at z
        cases z
    · obtain ⟨o, es, ep, e, hd, _⟩ := hns
      rw [z, here] at e
      cases e
      cases hd
  have modOk : L2.Mod K mg (hidT s₁.heap H) := ⟨kept, names hns, ⟨mb, names hb, hbb⟩, let ⟨mc, h1, h2⟩ := hlim; ⟨mc, names h1, h2⟩⟩
  have env0 : Env0 P w K mg (hidT s₁.heap H) callerA [] s₁ H := ⟨rfl, modOk, fun b o e => of_hidT e, Nat.le_of_eq (hidT_size _ _), trivial, fun b hb => (nomatch hb), hOk, .of_eq hg⟩
  refine codeAny_mono (F _ kept (names hns) (hmm.imp fun _ z => names z) tabB s₁ H (.ref a) (.ref a) _ _ env0 (hbind s₁ (.ref a)) rfl (hsp H hTab hSq)) fun r s' hr => ?_
  cases r with
  | error e => exact (hCX H e s' hr).elim
  | ok fl =>
    cases fl with
    | next => exact hr.elim
    | brk => exact hr.elim
    | cont => exact hr.elim
    | ret u =>
      obtain ⟨v, G, os, bare, un, okG, ru, q⟩ := hr
      obtain rfl : v = .bl true := q
      obtain rfl : u = Value.bool true := ru
      have same : ∀ {b : Addr} {o : Obj}, b ∉ cs.map (·.2) → s₁.heap.get? b = some o → s'.heap.get? b = some o := fun {b o} nb e => by
        rcases h0_or (K := K) (cs := cs) (vs := vs) (ns := ns) (a := a) (b := b) with ⟨_, _, h⟩ | ⟨hm, _⟩ | h
        · rw [hH] at h
          obtain ⟨e1, _⟩ := hOk b _ h
          obtain ⟨e2, _⟩ := okG b _ (un.frzs b _ _ h)
          rw [e1] at e
          cases e
          exact e2
        · exact absurd hm nb
        · rw [hH] at h
          exact un.keep b o e h (fun z => nomatch z) (fun z => nomatch z)
      refine ⟨rfl, ⟨fun b o e => ?_, fun b o e => ?_⟩, os, bare⟩
      · by_cases hb : b ∈ cs.map (·.2)
        · obtain ⟨p, hp, rfl, q⟩ := tabs hb
          obtain ⟨more, z⟩ := un.tbls p.2 #[] (hTab p hp)
          rw [q] at e
          cases e
          exact .inr (.inl ⟨((C p hp).tab q).isCodeTable, rfl, #[], more, rfl, okG p.2 _ z⟩)
        · exact .inl (same hb e)
      · by_cases hb : b ∈ cs.map (·.2)
        · obtain ⟨p, hp, rfl, q⟩ := tabs hb
          obtain ⟨more, z⟩ := un.tbls p.2 #[] (hTab p hp)
          exact ⟨_, okG p.2 _ z⟩
        · exact ⟨o, same hb e⟩
end
/-- what is known of the law's promise at the head's heap -/
def LawG (l : PySem.W.OpenLaw) (w : World) (K : PySem.W.Frag) (CX : CXT) (n : Nat) (x : Str) (mg : Str → Option Value) (fa : Addr) (h : Heap) : Prop :=
  ∃ (fd : FuncData) (cs : List (Addr × Addr)) (sp : Sp), (∀ p ∈ cs, h.get? p.2 = some tabO) ∧ (∀ p ∈ cs, K.lookup p.2 = none) ∧ (∀ p ∈ cs, PySem.W.CodeHd h p.1 p.2) ∧ (∀ (s : Shared) (u : Value), BindsTo s fd ⟨[u], []⟩ [(x, u)]) ∧
    (∀ (H : Hp) (a : Addr) (ns : List Int), ns.length ≤ n → (∀ p ∈ cs, H p.2 = some (.tbl #[])) → SqL K H a (ns.map V.int) → sp [.ref a] H (fun v _ => v = .bl true) fun _ _ _ => False) ∧
    ∀ base : Heap, K.In base → base.Ns mainGlobals mg → (∃ mm, base.Ns sysModules mm) → (∀ p ∈ cs, TabB base mg p.1 p.2) → RunG l.prog w K mg base CX fa fd x sp
theorem walk_ofG {l : PySem.W.OpenLaw} {n : Nat} {q : Program} {loose : List Str} {XP : (Str → Option Value) → Heap → Prop} {YP : World → Heap → Prop} {d : DefRec} {CX : World → CXT} {x : Str}
    (hn : l.most = some n) (hn2 : n ≤ sizeLine) (hdf : d.params.defaults = []) (hi : importsNone q = true)
    (F : ∀ (w : World) (mg : Str → Option Value) (fa : Addr) (h : Heap), YP w h → h.Ns mainGlobals mg → mg d.name = some (.ref fa) → ∃ K : PySem.W.Frag, K.In h ∧ LawG l w K (CX w) n x mg fa h)
    (hCX : ∀ (w : World) (H : Hp) (s : Shared) (e : Value) (s' : Shared), CX w [] H s (fun _ _ _ => False) e s' → False) :
    PySem.W.WalkO q loose XP YP l.row.toRowW d [] (fun f vs => PySem.call f vs) := by
  refine Att.attach_callB hn hdf fun w s₀ s₁ mg mb fa o pm cd doc a vs ns G Y ho hd hcd hmg hobj hints hlen _ hg => ?_
  obtain ⟨K, KX, fd, cs, sp, h1, h2, h3, h4, h5, h6⟩ := F w mg fa _ Y G.T.g hmg
  exact law_callG KX G.T.g G.T.b G.T.builtins G.T.nolimit hg h1 h2 h3 G.T.bmain hobj hints (Nat.le_trans hlen hn2) ((G.T.seer hi).mods.imp fun _ z => z.1) h6 h4 (fun H a1 a2 => h5 H a ns hlen a1 a2) fun H e s' => hCX w H s₁ e s'
end QT
namespace QT
open PySem PySem.Spec PyProof.Rows L2 LamX
theorem guards0 {env : Env} : (callerA.deeper env).guards = some [] := by
  first
    | rfl
    | simp [callerA, Around.deeper]
section
variable {P : Program} {w : World} {K : PySem.W.Frag} {mg : Str → Option Value} {base : Heap}
/-- the promise out of the body, in the caller's surroundings -/
theorem run_ofG {x qual y : Str} {st : Stmt} {f : Addr} {fd : FuncData} {N : List Str} {k : Nat} {sp : Sp} (F : Fun K x qual st f fd) (S : FnScope N [y] (defScope st)) (hr : Room (k + 1) callerA) (len : ∀ vs H Q E, sp vs H Q E → vs.length = 1)
    (hbody : ∀ (cdv : Value) (s : Shared) (H : Hp) (vs : List V) (Q : VK) (E : XK), Room k (callerA.deeper (envOfC qual (defScope st) s.heap.objs.size f cdv)) → sp vs H Q E →
      ∃ t, PSs (cxOf CX0 P w K mg base N qual (defScope st) f cdv callerA [] s H E).nox (defBody st) t ∧ t { nx := fun _ H' => Q .non H', rt := Q } (start N vs) H) : RunG P w K mg base CX0 f fd y sp := by
  obtain ⟨oc, od, kV, doc, pm, an, cdv, ct, osl, rfl, lk, hcd⟩ := F.ex
  intro s H u v Q E e0 hb r hsp
  have stay : ∀ b o, base.get? b = some o → s.heap.get? b = some o := fun b o e => (e0.bs b o e).1
  have kin : K.In s.heap := e0.mod.kin.keeps stay
  have where_ : ∀ z ∈ [(y, u)], (defScope st).names.lookup z.1 = some .local ∨ ((defScope st).names.lookup z.1 = some .cell ∧ ((cellsFrom (s.heap.objs.size + 1) (defScope st).names []).lookup z.1).isSome = true) := fun z hz => by
    have e : z = (y, u) := by simpa using hz
    rcases S.par z.1 (by rw [e]; exact List.mem_singleton.mpr rfl) with q | q
    · exact .inl q
    · exact .inr ⟨q, PySem.W.cellsFrom_some _ _ _ (.inl q)⟩
  refine codeAny_call_function hr.depth (kin _ _ lk) rfl S.co S.gen rfl (PySem.W.codeRec_of kin hcd) (hb _ _ _ _ (wpAny_newFunctionEnv_cells S.kind where_ fun env he s1 q1 => ?_))
  subst he
  refine ⟨(e0.mod.nolimit.keeps stay).keeps q1.toInCall.keep, codeAny_func ?_⟩
  obtain ⟨t, ht, hq⟩ := hbody cdv s H [v] Q E (hr.deeper _) hsp
  have I : Inv (cxOf CX0 P w K mg base N qual (defScope st) f cdv callerA [] s H E) [] (start N [v]) H s1 := inv_start (ps := [y]) (us := [u]) S hr.hd e0 rfl (.cons r .nil) q1
  refine wpAny_mono (ht.nox.run [] s1 (start N [v]) H _ I hq) (fun fl s' hs => ?_) fun _ _ hs => hs
  cases fl with
  | ret z =>
    obtain ⟨v', τ, G, J, rv, q⟩ := hs
    exact ⟨v', G, J.os, J.bare, J.base, J.hok, rv, q⟩
  | next =>
    obtain ⟨τ, G, J, q⟩ := hs
    exact ⟨.non, G, J.os, J.bare, J.base, J.hok, rfl, q⟩
  | brk =>
    obtain ⟨τ, G, J, q⟩ := hs
    exact q.elim
  | cont =>
    obtain ⟨τ, G, J, q⟩ := hs
    exact q.elim
end
end QT
end

section
set_option Elab.async false
set_option linter.all false
set_option maxRecDepth 100000
set_option maxHeartbeats 4000000
/-! Qbox: dicts with tuples as keys: setdefault, values; an own __getitem__; methods in a try's body. -/
namespace QM2
open PySem PySem.Spec PyProof.Rows L2
theorem pgetR {α β : Type} {F : α → β → Prop} : ∀ {l₁ : List α} {l₂ : List β} {j : Nat} {x : β}, Paired F l₁ l₂ → l₂[j]? = some x → ∃ y, l₁[j]? = some y ∧ F y x
  | _, _, j, x, .nil, h => by simp at h
  | _, _, 0, x, .cons (a := y) f _, h => by
    cases h
    exact ⟨y, rfl, f⟩
  | _, _, j + 1, x, .cons _ r, h => by
    rw [List.getElem?_cons_succ] at h ⊢
    exact pgetR r h
section
variable {X : Cx}
/-- d.setdefault(b, v), b a tuple of texts -/
def rSetdT : V → List V → Hp → VK → Prop := fun x xs H Q => ∃ (a : Addr) (kvs : List (List L2.Key × V)) (k : List L2.Key) (b : Addr) (v : V), x = .ref a ∧ xs = [.ref b, v] ∧ H a = some (.dT kvs) ∧ H b = some (.tup (k.map kV)) ∧ kvs.length < sizeLine ∧
  (∀ u, valV kvs k = some u → Q u H) ∧ (valV kvs k = none → Q v (upd H a (.dT (putK kvs k v))))
theorem mt_setdT (hu : X.A.units + 64 < cLine) : MtR X "dict.setdefault" rSetdT := by
  intro pins s σ H x xs v us Q I rx rxs h
  obtain ⟨a, kvs, k, b, d, rfl, rfl, ha, hb, hl, q1, q2⟩ := h
  cases rx
  obtain ⟨u1, u2, rfl, r1, r2⟩ := vals2 rxs
  cases r1
  obtain ⟨z, hd, xs', rel, dd⟩ := dt_of I.hok ha
  have hz : xs'.length ≤ sizeLine := by rw [← Paired.length rel]; exact z
  refine call_setdefault_heap (hsz := hz) (tupleKind_room_in1 (by omega)) (key_of I.hok hb) hd dd (fun p hp => ?_) fun hn h' dd' hs => ?_
  · have r := rel.val k
    rw [hp] at r
    obtain ⟨v0, ev, rv⟩ : ∃ v0, valV kvs k = some v0 ∧ RelV v0 p.2 := by
      cases ev : valV kvs k with
      | none =>
        rw [ev] at r
        exact (show False from r).elim
      | some v0 =>
        rw [ev] at r
        exact ⟨v0, rfl, r⟩
    exact ⟨v0, H, I.tok _, rv, q1 v0 ev⟩
  · have r := rel.val k
    rw [hn] at r
    have e : valV kvs k = none := by
      cases ev : valV kvs k with
      | none => rfl
      | some v0 =>
        rw [ev] at r
        exact (show False from r).elim
    have hl2 : (putK kvs k d).length ≤ sizeLine := by have := length_putK kvs k d; omega
    obtain ⟨o, es, ep, hq, h2, h3, h4, _, h5⟩ := dd'
    refine ⟨d, _, d_write (ob := .dT (putK kvs k d)) I (by rw [ha]; exact True.intro) hs ⟨o, hq⟩ ⟨hl2, hd, _, (rel.put k hb r2).keeps fun c ys ec => ?_, o, es, ep, hq, h2, h3, h4, h5⟩, r2, q2 e⟩
    rw [upd_ne (ne_of ec ha (fun z => nomatch z))]
    exact ec
/-- the view d.values() at p -/
def valuesO (p d : Addr) : HO := .ext fun h => h.IsValuesView p d
def rValuesT : V → List V → Hp → VK → Prop := fun x xs H Q => ∃ (a : Addr) (kvs : List (List L2.Key × V)), x = .ref a ∧ xs = [] ∧ H a = some (.dT kvs) ∧ ∀ p, H p = none → Q (.ref p) (upd H p (valuesO p a))
theorem mt_valuesT : MtR X "dict.values" rValuesT := by
  intro pins s σ H x xs v us Q I rx rxs h
  obtain ⟨a, kvs, rfl, rfl, ha, q⟩ := h
  cases rx
  cases rxs
  obtain ⟨z, hd, xs', rel, o, es, ep, ho, hx, hdat, _⟩ := dt_of I.hok ha
  refine call_meetsIn PySem.F.slot_dict_values (⟨o, ho, hx.1⟩ : s.TypeIs (.ref a) "dict") PySem.F.entry_dict_values (PySem.F.args_dict_values_1 _) (PySem.meets_dict_values_raw a hd) ⟨⟨es, ep, o, ho, hx, hdat⟩, ?_⟩
  have hf : H s.heap.objs.size = none := I.hok.fresh (Nat.le_refl _)
  have eg : (s.heap.push { cls := .type "dict_values", data := .fields #[.ref a] }).get? s.heap.objs.size = some { cls := .type "dict_values", data := .fields #[.ref a] } := Heap.get?_push_size _ rfl
  exact ⟨.ref s.heap.objs.size, upd H s.heap.objs.size (valuesO s.heap.objs.size a), I.laid (t' := s.toks) (fun b u e => Heap.get?_push_of_some _ e) (Nat.le_refl _) ⟨⟨_, eg, rfl, rfl⟩, ⟨_, eg⟩, fun h1 h2 x k => let ⟨o, ho, r⟩ := x; ⟨o, k o ho, r⟩⟩, rfl, q _ hf⟩
/-- list(view) -/
def rListVT : List V → Hp → VK → Prop := fun xs H Q => ∃ p a kvs, xs = [.ref p] ∧ H p = some (valuesO p a) ∧ H a = some (.dT kvs) ∧ ∀ q, H q = none → Q (.ref q) (upd H q (.lst (kvs.map (·.2))))
theorem call_listVT (hc : X.calm = true) : CallR X (.type "list") rListVT := by
  intro pins s σ H xs us Q I r h
  obtain ⟨p, a, kvs, rfl, hp, ha, q⟩ := h
  obtain ⟨u, rfl, rx⟩ := r.one
  cases rx
  have hv : s.heap.IsValuesView p a := (show ObjOk X.prog X.w H s.heap p (valuesO p a) from I.hok p _ hp).1
  obtain ⟨z, hd, xs', rel, dd⟩ := dt_of I.hok ha
  obtain ⟨es, ep, raw, hsz, hat⟩ := PySem.Heap.DictOfH.raw dd
  have hl : kvs.length = xs'.length := Paired.length rel
  refine PySem.W.kdl_call (PySem.KdlSrc.rawValues) (I.ok.hd hc) ⟨hv, raw⟩ (by omega) fun h' tk acc' c' hkeep hS hacc => ?_
  refine ⟨.ref s.heap.objs.size, upd H s.heap.objs.size (.lst (kvs.map (·.2))), I.laid hkeep (Nat.le_refl _) (show ObjOk X.prog X.w _ _ _ (.lst (kvs.map (·.2))) from ⟨?_, acc'.toList, c', ?_, ?_⟩), rfl, q _ (I.hok.fresh (Nat.le_refl _))⟩
  · rw [List.length_map]; exact z
  · have el : acc'.toList.length = acc'.size := by simp
    refine vals_of_at (by rw [List.length_map, el, hacc.1, hl, hsz]) fun j x w h1 h2 => ?_
    obtain ⟨hj, rfl⟩ := hacc.2 j w (by rw [← Array.getElem?_toList]; exact h2)
    obtain ⟨y, hy, _, e2, _⟩ := hat j hj
    rw [e2]
    obtain ⟨kv, hk, rr⟩ := pgetR rel hy
    rw [List.getElem?_map, hk] at h1
    cases h1
    exact rr.2.2
  · rw [Array.toArray_toList]; exact hS
end
/-! an own __getitem__ -/
section
variable {X : Cx} {CX : CXT} {k : Nat} {f C : Addr} {fd : FuncData} {ps : List Str} {sp : Sp} {E : XK} {a b : Expr} {ta tb : TE} {pos : Pos}
def tIxO (C : Addr) (sp : Sp) (E : XK) (ta tb : TE) : TE := fun σ H Q => ta σ H fun x H1 => tb σ H1 fun y H2 => ∃ p dx fs, x = .ref p ∧ H2 p = some (.ins C dx fs) ∧ sp [.ref p, y] H2 Q E
theorem pe_ixO (F : FnOk X.prog X.w X.K X.mg X.base CX k f fd ps sp) (hm : Meth X.K C "__getitem__" f) (hf : PySem.W.fnIn X.K f = true) (hr : Room (k + 1) X.A) (hb : Binds X.K fd ps []) (hx : Passes CX X E) (ha : PE X a ta) (hbb : PE X b tb)
    (hsl : ∀ (x : Addr) (i : Value), subscripted b true (.ref x) i = runValue (.builtin "lifetime.subscript" ⟨[.ref x, i], []⟩)) :
    PE X (.Subscript a b pos) (tIxO C sp E ta tb) := by
  refine ⟨fun pins s σ H Q I h => ?_⟩
  refine Subscript_ (binT ha hbb I (R := fun x y H2 => ∃ p dx fs, x = .ref p ∧ H2 p = some (.ins C dx fs) ∧ sp [.ref p, y] H2 Q E) h fun v u s2 x y H2 I2 rx ry q => ?_)
  obtain ⟨p, dx, fs, rfl, hp, q⟩ := q
  obtain rfl : v = Value.ref p := rx
  obtain ⟨mA, J, _⟩ := ins_get I2.hok hp
  obtain ⟨od, J, _⟩ := J.look
  obtain ⟨m, hF⟩ := I2.fr
  refine PySem.W.sub_K hF I2.ok.mod.kin J hm.at_ hf hm.fn ?_ (hsl p u)
  exact QO.run_in (A := X.A.in1) (vs := [.ref p, y]) ⟨hr.in1, rfl⟩ F hb hx I2 (.cons rfl (.cons ry .nil)) q
end
/-! methods in the body of a try -/
section
variable {X : Cx} {CX : CXT} {k : Nat} {f C : Addr} {fd : FuncData} {ps : List Str} {sp : Sp} {E : L2.St → XK} {m : Str} {pos apos : Pos} {o : Expr} {ta : TE}
def tMethS0 (C : Addr) (m : Str) (sp : Sp) (E : L2.St → XK) (ta : TE) : TE := fun σ H Q => ta σ H fun x H1 => ∃ a dx fs, x = .ref a ∧ H1 a = some (.ins C dx fs) ∧ fs.lookup m = none ∧ sp [.ref a] H1 Q (E σ)
theorem pe_methS0 {pl : Sem Bool} (he : PE X o ta) (c : Cls X.K C) (hm : Meth X.K C m f) (F : FnOk X.prog X.w X.K X.mg X.base CX k f fd ps sp) (hr : Room k X.A) (hb : Binds X.K fd ps []) (hx : ∀ σ, PassesAt CX X σ (E σ))
    (ht : eval (.Call (.Attribute o m apos) [] [] pos) X.env = (do
      let ov ← eval o X.env
      standAt apos.atName
      let (f, first) ← holding [ov] (getMethod ov m pl)
      callWith pos f first (backTo pos (starEach [] X.env)) (backToKw pos (keywordEach [] X.env))) := by rfl) :
    PE X (.Call (.Attribute o m apos) [] [] pos) (tMethS0 C m sp E ta) := by
  refine ⟨fun pins s σ H Q I h => ?_⟩
  refine PySem.W.methodCall_KW (pl := pl) (thn (he.run pins s σ H _ I h) fun u s1 ⟨x, H1, I1, rx, a, dx, fs, ex, ea, l, q⟩ => ?_) ht
  subst ex
  obtain rfl : u = Value.ref a := rx
  refine getmeth_ok I1 ea c hm l ?_
  exact PySem.W.callWith_K0 (first := [.ref a]) I1.kIn hm.kp (run_fnS (us := [.ref a]) (vs := [.ref a]) F hr hb (hx σ) I1 (.cons rfl .nil) q)
end
/-! raise X(), X without an __init__ of its own -/
def veMro : List Value := [.type "ValueError", .type "Exception", .type "BaseException", .type "object"]
structure NewX (K : PySem.W.Frag) (C : Addr) : Prop where
  ei : PySem.W.excIn K C veMro "ValueError.__new__" = true
  kp : PySem.W.keepIn K (.ref C) = true
  sub : PySem.W.subIn K (.ref C) (.type "BaseException") = some true
  ty : PySem.W.typeIn K (.ref C) = some (.type "type")
  exc : ExcC K C
def newXB (K : PySem.W.Frag) (C : Addr) : Bool := PySem.W.excIn K C veMro "ValueError.__new__" && (PySem.W.keepIn K (.ref C) && (decide (PySem.W.subIn K (.ref C) (.type "BaseException") = some true) && (decide (PySem.W.typeIn K (.ref C) = some (.type "type")) && QX.excB K C)))
theorem newXB_ok {K : PySem.W.Frag} {C : Addr} (h : newXB K C = true) : NewX K C := by
  unfold newXB at h
  obtain ⟨h1, h⟩ := Bool.and_eq_true_iff.mp h
  obtain ⟨h2, h⟩ := Bool.and_eq_true_iff.mp h
  obtain ⟨h3, h⟩ := Bool.and_eq_true_iff.mp h
  obtain ⟨h4, h5⟩ := Bool.and_eq_true_iff.mp h
  exact ⟨h1, h2, of_decide_eq_true h3, of_decide_eq_true h4, (QX.excB_ok h5).1⟩
theorem pmk_own0 {X : Cx} {C : Addr} {x : Str} {p pos : Pos} (n : NewX X.K C) (hg : Gl X x) (gC : X.mg x = some (.ref C)) (hdb : (x == ("__debug__" : Str)) = false := by decide) :
    PMk X (.Call (.Name x p) [] [] pos) (fun _ H Q => Q (.ref C) none H) := by
  intro pins s σ H Q I h
  refine wpAny_Call_Name_kw (ld_glob I hg gC ?_ hdb)
  refine PySem.W.callWith_K0 I.kIn n.kp ?_
  obtain ⟨bm, N, nm, qn, bs, hdct, sn, sub, ab, col, dd, k0, k1, k2, k3, k5, mN, hC, hN, hni, T⟩ := exc_obj I.kIn n.ei
  refine wpAny_call_exc_subT PySem.F.excBase_ValueError T hC hN hni (fun h' e hm => ?_) (by show 0 ≤ sizeLine; omega)
  exact mk_of I hm (raises_own n.sub n.ty) h (I.hok.gone hm.new)
theorem fn_of {K : PySem.W.Frag} {x qual : Str} {st : Stmt} {f : Addr} {fd : FuncData} (F : L2.Fun K x qual st f fd) : PySem.W.fnIn K f = true := by
  obtain ⟨oc, od, kV, doc, pm, an, cdv, ct, osl, _, hl, _⟩ := F.ex
  unfold PySem.W.fnIn
  rw [hl]
end QM2
end

section
set_option Elab.async false
set_option linter.all false
set_option maxRecDepth 100000
set_option maxHeartbeats 4000000
namespace Law
open PySem PySem.Spec PyProof.Rows L2 LamX QB QM
def topS (i : Nat) : Stmt := PySem.Challenge.pw_subjecttags_k51_mailboxes_refused.main.body.getD i (.Pass ⟨0, 0, 0, 0⟩)
abbrev s__wall : Stmt := topS 0
theorem sc__wall : FnScope ["k"] ["k"] (defScope s__wall) := ⟨rfl, rfl, rfl, by decide +kernel, rfl, by decide +kernel, by decide +kernel⟩
abbrev s_InvalidTags___init__ : Stmt := inClass (topS 3) 0
theorem sc_InvalidTags___init__ : FnScope ["self", "index"] ["self", "index"] (defScope s_InvalidTags___init__) := ⟨rfl, rfl, rfl, by decide +kernel, rfl, by decide +kernel, by decide +kernel⟩
abbrev s_InvalidSubject___init__ : Stmt := inClass (topS 4) 0
theorem sc_InvalidSubject___init__ : FnScope ["self", "index"] ["self", "index"] (defScope s_InvalidSubject___init__) := ⟨rfl, rfl, rfl, by decide +kernel, rfl, by decide +kernel, by decide +kernel⟩
abbrev s_InvalidEater___init__ : Stmt := inClass (topS 5) 0
theorem sc_InvalidEater___init__ : FnScope ["self", "index"] ["self", "index"] (defScope s_InvalidEater___init__) := ⟨rfl, rfl, rfl, by decide +kernel, rfl, by decide +kernel, by decide +kernel⟩
abbrev s_InvalidNumber___init__ : Stmt := inClass (topS 6) 0
theorem sc_InvalidNumber___init__ : FnScope ["self", "number"] ["self", "number"] (defScope s_InvalidNumber___init__) := ⟨rfl, rfl, rfl, by decide +kernel, rfl, by decide +kernel, by decide +kernel⟩
abbrev s_InvalidPrograms___init__ : Stmt := inClass (topS 7) 0
theorem sc_InvalidPrograms___init__ : FnScope ["self", "index"] ["self", "index"] (defScope s_InvalidPrograms___init__) := ⟨rfl, rfl, rfl, by decide +kernel, rfl, by decide +kernel, by decide +kernel⟩
abbrev s_InvalidStarts___init__ : Stmt := inClass (topS 8) 0
theorem sc_InvalidStarts___init__ : FnScope ["self", "index"] ["self", "index"] (defScope s_InvalidStarts___init__) := ⟨rfl, rfl, rfl, by decide +kernel, rfl, by decide +kernel, by decide +kernel⟩
abbrev s_TooMany___init__ : Stmt := inClass (topS 10) 0
theorem sc_TooMany___init__ : FnScope ["self", "limit"] ["self", "limit"] (defScope s_TooMany___init__) := ⟨rfl, rfl, rfl, by decide +kernel, rfl, by decide +kernel, by decide +kernel⟩
abbrev s_is_number : Stmt := topS 18
theorem sc_is_number : FnScope ["x", "least", "most"] ["x", "least", "most"] (defScope s_is_number) := ⟨rfl, rfl, rfl, by decide +kernel, rfl, by decide +kernel, by decide +kernel⟩
abbrev s_is_list : Stmt := topS 19
theorem sc_is_list : FnScope ["x", "least", "most"] ["x", "least", "most"] (defScope s_is_list) := ⟨rfl, rfl, rfl, by decide +kernel, rfl, by decide +kernel, by decide +kernel⟩
abbrev s_is_name : Stmt := topS 20
theorem sc_is_name : FnScope ["x", "letter"] ["x"] (defScope s_is_name) := ⟨rfl, rfl, rfl, by decide +kernel, rfl, by decide +kernel, by decide +kernel⟩
abbrev s_is_tag : Stmt := topS 21
theorem sc_is_tag : FnScope ["tags", "x"] ["tags", "x"] (defScope s_is_tag) := ⟨rfl, rfl, rfl, by decide +kernel, rfl, by decide +kernel, by decide +kernel⟩
abbrev s_is_subject : Stmt := topS 22
theorem sc_is_subject : FnScope ["tags", "x", "tag"] ["tags", "x"] (defScope s_is_subject) := ⟨rfl, rfl, rfl, by decide +kernel, rfl, by decide +kernel, by decide +kernel⟩
abbrev s_is_standing : Stmt := topS 23
theorem sc_is_standing : FnScope ["tags", "many", "x", "word", "ways", "way"] ["tags", "many", "x"] (defScope s_is_standing) := ⟨rfl, rfl, rfl, by decide +kernel, rfl, by decide +kernel, by decide +kernel⟩
abbrev s_check_tags : Stmt := topS 24
theorem sc_check_tags : FnScope ["tags", "at", "tag"] ["tags"] (defScope s_check_tags) := ⟨rfl, rfl, rfl, by decide +kernel, rfl, by decide +kernel, by decide +kernel⟩
abbrev s_check_word : Stmt := topS 25
theorem sc_check_word : FnScope ["tags", "word", "most", "at", "tag"] ["tags", "word", "most"] (defScope s_check_word) := ⟨rfl, rfl, rfl, by decide +kernel, rfl, by decide +kernel, by decide +kernel⟩
abbrev s_check_standings : Stmt := topS 26
theorem sc_check_standings : FnScope ["tags", "standings", "at", "standing"] ["tags", "standings"] (defScope s_check_standings) := ⟨rfl, rfl, rfl, by decide +kernel, rfl, by decide +kernel, by decide +kernel⟩
abbrev s_check_number : Stmt := topS 27
theorem sc_check_number : FnScope ["number", "most"] ["number", "most"] (defScope s_check_number) := ⟨rfl, rfl, rfl, by decide +kernel, rfl, by decide +kernel, by decide +kernel⟩
abbrev s_walked : Stmt := topS 29
theorem sc_walked : FnScope ["tags", "standings", "word", "at", "many", "tag", "way"] ["tags", "standings", "word"] (defScope s_walked) := ⟨rfl, rfl, rfl, by decide +kernel, rfl, by decide +kernel, by decide +kernel⟩
abbrev s_made : Stmt := topS 30
theorem sc_made : FnScope ["tags", "standings", "subject", "at", "many"] ["tags", "standings", "subject"] (defScope s_made) := ⟨rfl, rfl, rfl, by decide +kernel, rfl, by decide +kernel, by decide +kernel⟩
abbrev s_is_settled_at : Stmt := topS 31
theorem sc_is_settled_at : FnScope ["standing", "way"] ["standing"] (defScope s_is_settled_at) := ⟨rfl, rfl, rfl, by decide +kernel, rfl, by decide +kernel, by decide +kernel⟩
abbrev s_is_made_at : Stmt := topS 32
theorem sc_is_made_at : FnScope ["tags", "standing", "subject", "word", "ways", "stops", "tag", "way"] ["tags", "standing", "subject"] (defScope s_is_made_at) := ⟨rfl, rfl, rfl, by decide +kernel, rfl, by decide +kernel, by decide +kernel⟩
abbrev s_copied : Stmt := topS 33
theorem sc_copied : FnScope ["standings", "word", "ways"] ["standings"] (defScope s_copied) := ⟨rfl, rfl, rfl, by decide +kernel, rfl, by decide +kernel, by decide +kernel⟩
abbrev s_without_needless_ways : Stmt := topS 34
theorem sc_without_needless_ways : FnScope ["tags", "standings", "needed", "settled", "at", "word", "ways", "place", "tag", "way"] ["tags", "standings"] (defScope s_without_needless_ways) := ⟨rfl, rfl, rfl, by decide +kernel, rfl, by decide +kernel, by decide +kernel⟩
abbrev s_numbered : Stmt := topS 35
theorem sc_numbered : FnScope ["marks", "numbers", "told", "mark"] ["marks"] (defScope s_numbered) := ⟨rfl, rfl, rfl, by decide +kernel, rfl, by decide +kernel, by decide +kernel⟩
abbrev s_parted : Stmt := topS 36
theorem sc_parted : FnScope ["classes", "standings", "marks", "number", "_", "ways", "way"] ["classes", "standings"] (defScope s_parted) := ⟨rfl, rfl, rfl, by decide +kernel, rfl, by decide +kernel, by decide +kernel⟩
abbrev s_alike_classes : Stmt := topS 37
theorem sc_alike_classes : FnScope ["standings", "classes", "many", "word", "_"] ["standings"] (defScope s_alike_classes) := ⟨rfl, rfl, rfl, by decide +kernel, rfl, by decide +kernel, by decide +kernel⟩
abbrev s_in_order_met : Stmt := topS 38
theorem sc_in_order_met : FnScope ["standings", "classes", "numbers", "met", "told", "beside", "ways", "way"] ["standings", "classes"] (defScope s_in_order_met) := ⟨rfl, rfl, rfl, by decide +kernel, rfl, by decide +kernel, by decide +kernel⟩
abbrev s_least_form : Stmt := topS 39
theorem sc_least_form : FnScope ["tags", "standings", "needed"] ["tags", "standings"] (defScope s_least_form) := ⟨rfl, rfl, rfl, by decide +kernel, rfl, by decide +kernel, by decide +kernel⟩
abbrev s_Eater___init__ : Stmt := inClass (topS 41) 0
theorem sc_Eater___init__ : FnScope ["self", "tags", "standings"] ["self", "tags", "standings"] (defScope s_Eater___init__) := ⟨rfl, rfl, rfl, by decide +kernel, rfl, by decide +kernel, by decide +kernel⟩
abbrev s_Eater___len__ : Stmt := inClass (topS 41) 1
theorem sc_Eater___len__ : FnScope ["self"] ["self"] (defScope s_Eater___len__) := ⟨rfl, rfl, rfl, by decide +kernel, rfl, by decide +kernel, by decide +kernel⟩
abbrev s_Eater___eq__ : Stmt := inClass (topS 41) 2
theorem sc_Eater___eq__ : FnScope ["self", "other"] ["self", "other"] (defScope s_Eater___eq__) := ⟨rfl, rfl, rfl, by decide +kernel, rfl, by decide +kernel, by decide +kernel⟩
abbrev s_Eater___contains__ : Stmt := inClass (topS 41) 3
theorem sc_Eater___contains__ : FnScope ["self", "x", "standing"] ["self", "x"] (defScope s_Eater___contains__) := ⟨rfl, rfl, rfl, by decide +kernel, rfl, by decide +kernel, by decide +kernel⟩
abbrev s_Eater_tags : Stmt := inClass (topS 41) 4
theorem sc_Eater_tags : FnScope ["self"] ["self"] (defScope s_Eater_tags) := ⟨rfl, rfl, rfl, by decide +kernel, rfl, by decide +kernel, by decide +kernel⟩
abbrev s_Eater_standings : Stmt := inClass (topS 41) 5
theorem sc_Eater_standings : FnScope ["self"] ["self"] (defScope s_Eater_standings) := ⟨rfl, rfl, rfl, by decide +kernel, rfl, by decide +kernel, by decide +kernel⟩
abbrev s_Eater_on : Stmt := inClass (topS 41) 6
theorem sc_Eater_on : FnScope ["self", "subject"] ["self", "subject"] (defScope s_Eater_on) := ⟨rfl, rfl, rfl, by decide +kernel, rfl, by decide +kernel, by decide +kernel⟩
abbrev s_Eater_settled : Stmt := inClass (topS 41) 7
theorem sc_Eater_settled : FnScope ["self", "word", "at", "many"] ["self", "word"] (defScope s_Eater_settled) := ⟨rfl, rfl, rfl, by decide +kernel, rfl, by decide +kernel, by decide +kernel⟩
abbrev s_Eater_then : Stmt := inClass (topS 41) 8
theorem sc_Eater_then : FnScope ["self", "other"] ["self", "other"] (defScope s_Eater_then) := ⟨rfl, rfl, rfl, by decide +kernel, rfl, by decide +kernel, by decide +kernel⟩
abbrev s_Eater_power : Stmt := inClass (topS 41) 9
theorem sc_Eater_power : FnScope ["self", "times"] ["self", "times"] (defScope s_Eater_power) := ⟨rfl, rfl, rfl, by decide +kernel, rfl, by decide +kernel, by decide +kernel⟩
abbrev s_check_same_tags : Stmt := topS 42
theorem sc_check_same_tags : FnScope ["one", "other"] ["one", "other"] (defScope s_check_same_tags) := ⟨rfl, rfl, rfl, by decide +kernel, rfl, by decide +kernel, by decide +kernel⟩
abbrev s_check_programs : Stmt := topS 45
theorem sc_check_programs : FnScope ["programs", "at", "eater"] ["programs"] (defScope s_check_programs) := ⟨rfl, rfl, rfl, by decide +kernel, rfl, by decide +kernel, by decide +kernel⟩
abbrev s_Mailbox___init__ : Stmt := inClass (topS 47) 0
theorem sc_Mailbox___init__ : FnScope ["self", "programs", "key"] ["self", "programs", "key"] (defScope s_Mailbox___init__) := ⟨rfl, rfl, rfl, by decide +kernel, rfl, by decide +kernel, by decide +kernel⟩
abbrev s_Mailbox___len__ : Stmt := inClass (topS 47) 1
theorem sc_Mailbox___len__ : FnScope ["self"] ["self"] (defScope s_Mailbox___len__) := ⟨rfl, rfl, rfl, by decide +kernel, rfl, by decide +kernel, by decide +kernel⟩
abbrev s_Mailbox___getitem__ : Stmt := inClass (topS 47) 2
theorem sc_Mailbox___getitem__ : FnScope ["self", "number"] ["self", "number"] (defScope s_Mailbox___getitem__) := ⟨rfl, rfl, rfl, by decide +kernel, rfl, by decide +kernel, by decide +kernel⟩
abbrev s_Mailbox___iter__ : Stmt := inClass (topS 47) 3
theorem sc_Mailbox___iter__ : FnScope ["self"] ["self"] (defScope s_Mailbox___iter__) := ⟨rfl, rfl, rfl, by decide +kernel, rfl, by decide +kernel, by decide +kernel⟩
abbrev s_Mailbox_begin : Stmt := inClass (topS 47) 4
theorem sc_Mailbox_begin : FnScope ["self", "subject"] ["self", "subject"] (defScope s_Mailbox_begin) := ⟨rfl, rfl, rfl, by decide +kernel, rfl, by decide +kernel, by decide +kernel⟩
abbrev s_Mailbox_answer : Stmt := inClass (topS 47) 5
theorem sc_Mailbox_answer : FnScope ["self", "number", "program"] ["self", "number", "program"] (defScope s_Mailbox_answer) := ⟨rfl, rfl, rfl, by decide +kernel, rfl, by decide +kernel, by decide +kernel⟩
abbrev s_Mailbox_key_of : Stmt := inClass (topS 47) 6
theorem sc_Mailbox_key_of : FnScope ["self", "number"] ["self", "number"] (defScope s_Mailbox_key_of) := ⟨rfl, rfl, rfl, by decide +kernel, rfl, by decide +kernel, by decide +kernel⟩
abbrev s_Mailbox_talk : Stmt := inClass (topS 47) 7
theorem sc_Mailbox_talk : FnScope ["self", "number"] ["self", "number"] (defScope s_Mailbox_talk) := ⟨rfl, rfl, rfl, by decide +kernel, rfl, by decide +kernel, by decide +kernel⟩
abbrev s_Mailbox_talks : Stmt := inClass (topS 47) 8
theorem sc_Mailbox_talks : FnScope ["self", "found", "number", "_", "key"] ["self"] (defScope s_Mailbox_talks) := ⟨rfl, rfl, rfl, by decide +kernel, rfl, by decide +kernel, by decide +kernel⟩
abbrev s_Mailbox_tried : Stmt := inClass (topS 47) 9
theorem sc_Mailbox_tried : FnScope ["self", "number", "program"] ["self", "number", "program"] (defScope s_Mailbox_tried) := ⟨rfl, rfl, rfl, by decide +kernel, rfl, by decide +kernel, by decide +kernel⟩
abbrev s_Mailbox_undo : Stmt := inClass (topS 47) 10
theorem sc_Mailbox_undo : FnScope ["self"] ["self"] (defScope s_Mailbox_undo) := ⟨rfl, rfl, rfl, by decide +kernel, rfl, by decide +kernel, by decide +kernel⟩
abbrev s_Mailbox_trial : Stmt := inClass (topS 47) 11
theorem sc_Mailbox_trial : FnScope ["self"] ["self"] (defScope s_Mailbox_trial) := ⟨rfl, rfl, rfl, by decide +kernel, rfl, by decide +kernel, by decide +kernel⟩
abbrev s_Mailbox__come : Stmt := inClass (topS 47) 12
theorem sc_Mailbox__come : FnScope ["self", "subject"] ["self", "subject"] (defScope s_Mailbox__come) := ⟨rfl, rfl, rfl, by decide +kernel, rfl, by decide +kernel, by decide +kernel⟩
abbrev s_Mailbox__answered : Stmt := inClass (topS 47) 13
theorem sc_Mailbox__answered : FnScope ["self", "number", "program", "subject"] ["self", "number", "program"] (defScope s_Mailbox__answered) := ⟨rfl, rfl, rfl, by decide +kernel, rfl, by decide +kernel, by decide +kernel⟩
abbrev s_Mailbox__with_key : Stmt := inClass (topS 47) 14
theorem sc_Mailbox__with_key : FnScope ["self", "key", "number", "_", "other"] ["self", "key"] (defScope s_Mailbox__with_key) := ⟨rfl, rfl, rfl, by decide +kernel, rfl, by decide +kernel, by decide +kernel⟩
abbrev s__law_mixed : Stmt := topS 49
theorem sc__law_mixed : FnScope ["cell", "k", "number"] ["cell", "k"] (defScope s__law_mixed) := ⟨rfl, rfl, rfl, by decide +kernel, rfl, by decide +kernel, by decide +kernel⟩
abbrev s__law_pile : Stmt := topS 50
theorem sc__law_pile : FnScope ["script", "k", "cell", "great"] ["script", "k"] (defScope s__law_pile) := ⟨rfl, rfl, rfl, by decide +kernel, rfl, by decide +kernel, by decide +kernel⟩
abbrev s__law_take : Stmt := topS 51
theorem sc__law_take : FnScope ["pile", "many", "digit"] ["pile", "many"] (defScope s__law_take) := ⟨rfl, rfl, rfl, by decide +kernel, rfl, by decide +kernel, by decide +kernel⟩
abbrev s__law_order : Stmt := topS 52
theorem sc__law_order : FnScope ["pile", "many", "left", "found"] ["pile", "many"] (defScope s__law_order) := ⟨rfl, rfl, rfl, by decide +kernel, rfl, by decide +kernel, by decide +kernel⟩
abbrev s__law_tags : Stmt := topS 53
theorem sc__law_tags : FnScope ["pile", "many", "letters", "plain", "at", "stem", "shift", "pace", "k"] ["pile", "many"] (defScope s__law_tags) := ⟨rfl, rfl, rfl, by decide +kernel, rfl, by decide +kernel, by decide +kernel⟩
abbrev s__law_word : Stmt := topS 54
theorem sc__law_word : FnScope ["pile", "tags", "most", "turn"] ["pile", "tags", "most"] (defScope s__law_word) := ⟨rfl, rfl, rfl, by decide +kernel, rfl, by decide +kernel, by decide +kernel⟩
abbrev s__law_standings : Stmt := topS 55
theorem sc__law_standings : FnScope ["pile", "tags", "most", "long", "many", "found", "k", "ways", "tag"] ["pile", "tags", "most", "long"] (defScope s__law_standings) := ⟨rfl, rfl, rfl, by decide +kernel, rfl, by decide +kernel, by decide +kernel⟩
abbrev s__law_eaten : Stmt := topS 56
theorem sc__law_eaten : FnScope ["tags", "standings", "subject", "place", "count"] ["tags", "standings", "subject"] (defScope s__law_eaten) := ⟨rfl, rfl, rfl, by decide +kernel, rfl, by decide +kernel, by decide +kernel⟩
abbrev s__law_row_done : Stmt := topS 57
theorem sc__law_row_done : FnScope ["tags", "every", "subject", "row", "found", "number"] ["tags", "every", "subject", "row"] (defScope s__law_row_done) := ⟨rfl, rfl, rfl, by decide +kernel, rfl, by decide +kernel, by decide +kernel⟩
abbrev s__law_done : Stmt := topS 58
theorem sc__law_done : FnScope ["way", "mailbox", "one", "other"] ["way", "mailbox", "one", "other"] (defScope s__law_done) := ⟨rfl, rfl, rfl, by decide +kernel, rfl, by decide +kernel, by decide +kernel⟩
abbrev s__law_told : Stmt := topS 59
theorem sc__law_told : FnScope ["way", "mailbox", "one", "other", "error", "e"] ["way", "mailbox", "one", "other"] (defScope s__law_told) := ⟨rfl, rfl, rfl, by decide +kernel, rfl, by decide +kernel, by decide +kernel⟩
abbrev s__law_is_number : Stmt := topS 60
theorem sc__law_is_number : FnScope ["thing", "many"] ["thing", "many"] (defScope s__law_is_number) := ⟨rfl, rfl, rfl, by decide +kernel, rfl, by decide +kernel, by decide +kernel⟩
abbrev s__law_number_due : Stmt := topS 61
theorem sc__law_number_due : FnScope ["way", "letters", "programs", "one", "other"] ["way", "letters", "programs", "one", "other"] (defScope s__law_number_due) := ⟨rfl, rfl, rfl, by decide +kernel, rfl, by decide +kernel, by decide +kernel⟩
abbrev s__law_subject_due : Stmt := topS 62
theorem sc__law_subject_due : FnScope ["tags", "one", "wrong", "k", "tag"] ["tags", "one"] (defScope s__law_subject_due) := ⟨rfl, rfl, rfl, by decide +kernel, rfl, by decide +kernel, by decide +kernel⟩
abbrev s__law_programs_due : Stmt := topS 63
theorem sc__law_programs_due : FnScope ["tags", "one", "other", "k", "thing"] ["tags", "one", "other"] (defScope s__law_programs_due) := ⟨rfl, rfl, rfl, by decide +kernel, rfl, by decide +kernel, by decide +kernel⟩
abbrev s__law_state : Stmt := topS 64
theorem sc__law_state : FnScope ["mailbox", "many", "k"] ["mailbox", "many"] (defScope s__law_state) := ⟨rfl, rfl, rfl, by decide +kernel, rfl, by decide +kernel, by decide +kernel⟩
abbrev s__law_long_right : Stmt := topS 65
theorem sc__law_long_right : FnScope ["tags", "adding", "mailbox", "box"] ["tags"] (defScope s__law_long_right) := ⟨rfl, rfl, rfl, by decide +kernel, rfl, by decide +kernel, by decide +kernel⟩
abbrev s_law : Stmt := topS 66
theorem sc_law : FnScope ["script", "at", "pile", "tags", "turn", "programs", "key", "strange", "mailbox", "many", "odd", "one", "other", "state", "way", "due", "words", "some", "lots", "lot", "reader"] ["script"] (defScope s_law) := ⟨rfl, rfl, rfl, by decide +kernel, rfl, by decide +kernel, by decide +kernel⟩
structure TX (K : PySem.W.Frag) (mg : Str → Option Value) : Type where
  n_TypeError : mg "TypeError" = none
  n_ValueError : mg "ValueError" = none
  n_abs : mg "abs" = none
  n_all : mg "all" = none
  n_any : mg "any" = none
  n_bool : mg "bool" = none
  n_enumerate : mg "enumerate" = none
  n_int : mg "int" = none
  n_isinstance : mg "isinstance" = none
  n_len : mg "len" = none
  n_list : mg "list" = none
  n_max : mg "max" = none
  n_range : mg "range" = none
  n_sorted : mg "sorted" = none
  n_str : mg "str" = none
  n_tuple : mg "tuple" = none
  n_zip : mg "zip" = none
  c_LETTERS : ∃ u, mg "LETTERS" = some u ∧ RelV (.str "abcdefghijklmnopqrstuvwxyz") u
  c_MOST_LETTERS : ∃ u, mg "MOST_LETTERS" = some u ∧ RelV (.int 8) u
  c_MOST_TAGS : ∃ u, mg "MOST_TAGS" = some u ∧ RelV (.int 6) u
  c_MOST_STANDINGS : ∃ u, mg "MOST_STANDINGS" = some u ∧ RelV (.int 30) u
  c_LONGEST_WORD : ∃ u, mg "LONGEST_WORD" = some u ∧ RelV (.int 8) u
  c_LONGEST_SUBJECT : ∃ u, mg "LONGEST_SUBJECT" = some u ∧ RelV (.int 200) u
  c_MOST_PROGRAMS : ∃ u, mg "MOST_PROGRAMS" = some u ∧ RelV (.int 6) u
  d__wall : QB.TopAt K mg "_wall" s__wall ["k"]
  d_is_number : QB.TopAt K mg "is_number" s_is_number ["x", "least", "most"]
  d_is_list : QB.TopAt K mg "is_list" s_is_list ["x", "least", "most"]
  d_is_name : QB.TopAt K mg "is_name" s_is_name ["x"]
  d_is_tag : QB.TopAt K mg "is_tag" s_is_tag ["tags", "x"]
  d_is_subject : QB.TopAt K mg "is_subject" s_is_subject ["tags", "x"]
  d_is_standing : QB.TopAt K mg "is_standing" s_is_standing ["tags", "many", "x"]
  d_check_tags : QB.TopAt K mg "check_tags" s_check_tags ["tags"]
  d_check_word : QB.TopAt K mg "check_word" s_check_word ["tags", "word", "most"]
  d_check_standings : QB.TopAt K mg "check_standings" s_check_standings ["tags", "standings"]
  d_check_number : QB.TopAt K mg "check_number" s_check_number ["number", "most"]
  d_walked : QB.TopAt K mg "walked" s_walked ["tags", "standings", "word"]
  d_made : QB.TopAt K mg "made" s_made ["tags", "standings", "subject"]
  d_is_settled_at : QB.TopAt K mg "is_settled_at" s_is_settled_at ["standing"]
  d_is_made_at : QB.TopAt K mg "is_made_at" s_is_made_at ["tags", "standing", "subject"]
  d_copied : QB.TopAt K mg "copied" s_copied ["standings"]
  d_without_needless_ways : QB.TopAt K mg "without_needless_ways" s_without_needless_ways ["tags", "standings"]
  d_numbered : QB.TopAt K mg "numbered" s_numbered ["marks"]
  d_parted : QB.TopAt K mg "parted" s_parted ["classes", "standings"]
  d_alike_classes : QB.TopAt K mg "alike_classes" s_alike_classes ["standings"]
  d_in_order_met : QB.TopAt K mg "in_order_met" s_in_order_met ["standings", "classes"]
  d_least_form : QB.TopAt K mg "least_form" s_least_form ["tags", "standings"]
  d_check_same_tags : QB.TopAt K mg "check_same_tags" s_check_same_tags ["one", "other"]
  d_check_programs : QB.TopAt K mg "check_programs" s_check_programs ["programs"]
  d__law_mixed : QB.TopAt K mg "_law_mixed" s__law_mixed ["cell", "k"]
  d__law_pile : QB.TopAt K mg "_law_pile" s__law_pile ["script", "k"]
  d__law_take : QB.TopAt K mg "_law_take" s__law_take ["pile", "many"]
  d__law_order : QB.TopAt K mg "_law_order" s__law_order ["pile", "many"]
  d__law_tags : QB.TopAt K mg "_law_tags" s__law_tags ["pile", "many"]
  d__law_word : QB.TopAt K mg "_law_word" s__law_word ["pile", "tags", "most"]
  d__law_standings : QB.TopAt K mg "_law_standings" s__law_standings ["pile", "tags", "most", "long"]
  d__law_eaten : QB.TopAt K mg "_law_eaten" s__law_eaten ["tags", "standings", "subject"]
  d__law_row_done : QB.TopAt K mg "_law_row_done" s__law_row_done ["tags", "every", "subject", "row"]
  d__law_done : QB.TopAt K mg "_law_done" s__law_done ["way", "mailbox", "one", "other"]
  d__law_told : QB.TopAt K mg "_law_told" s__law_told ["way", "mailbox", "one", "other"]
  d__law_is_number : QB.TopAt K mg "_law_is_number" s__law_is_number ["thing", "many"]
  d__law_number_due : QB.TopAt K mg "_law_number_due" s__law_number_due ["way", "letters", "programs", "one", "other"]
  d__law_subject_due : QB.TopAt K mg "_law_subject_due" s__law_subject_due ["tags", "one"]
  d__law_programs_due : QB.TopAt K mg "_law_programs_due" s__law_programs_due ["tags", "one", "other"]
  d__law_state : QB.TopAt K mg "_law_state" s__law_state ["mailbox", "many"]
  d__law_long_right : QB.TopAt K mg "_law_long_right" s__law_long_right ["tags"]
  d_law : QB.TopAt K mg "law" s_law ["script"]
  lam_c : Addr
  lam_P : Addr
  lam_F : QB.FunC K "without_needless_ways" "without_needless_ways" s_without_needless_ways d_without_needless_ways.a d_without_needless_ways.fd lam_c
  e_TagError : Addr
  me_TagError : mg "TagError" = some (.ref e_TagError)
  e_InvalidTags : Addr
  me_InvalidTags : mg "InvalidTags" = some (.ref e_InvalidTags)
  d_InvalidTags___init__ : QB.DefAt K "__init__" "InvalidTags.__init__" s_InvalidTags___init__ ["self", "index"]
  xt_InvalidTags : QX.ExcT K e_InvalidTags d_InvalidTags___init__.a "index"
  e_InvalidSubject : Addr
  me_InvalidSubject : mg "InvalidSubject" = some (.ref e_InvalidSubject)
  d_InvalidSubject___init__ : QB.DefAt K "__init__" "InvalidSubject.__init__" s_InvalidSubject___init__ ["self", "index"]
  xt_InvalidSubject : QX.ExcT K e_InvalidSubject d_InvalidSubject___init__.a "index"
  e_InvalidEater : Addr
  me_InvalidEater : mg "InvalidEater" = some (.ref e_InvalidEater)
  d_InvalidEater___init__ : QB.DefAt K "__init__" "InvalidEater.__init__" s_InvalidEater___init__ ["self", "index"]
  xt_InvalidEater : QX.ExcT K e_InvalidEater d_InvalidEater___init__.a "index"
  e_InvalidNumber : Addr
  me_InvalidNumber : mg "InvalidNumber" = some (.ref e_InvalidNumber)
  d_InvalidNumber___init__ : QB.DefAt K "__init__" "InvalidNumber.__init__" s_InvalidNumber___init__ ["self", "number"]
  xt_InvalidNumber : QX.ExcT K e_InvalidNumber d_InvalidNumber___init__.a "number"
  e_InvalidPrograms : Addr
  me_InvalidPrograms : mg "InvalidPrograms" = some (.ref e_InvalidPrograms)
  d_InvalidPrograms___init__ : QB.DefAt K "__init__" "InvalidPrograms.__init__" s_InvalidPrograms___init__ ["self", "index"]
  xt_InvalidPrograms : QX.ExcT K e_InvalidPrograms d_InvalidPrograms___init__.a "index"
  e_InvalidStarts : Addr
  me_InvalidStarts : mg "InvalidStarts" = some (.ref e_InvalidStarts)
  d_InvalidStarts___init__ : QB.DefAt K "__init__" "InvalidStarts.__init__" s_InvalidStarts___init__ ["self", "index"]
  xt_InvalidStarts : QX.ExcT K e_InvalidStarts d_InvalidStarts___init__.a "index"
  e_UnlikeTags : Addr
  me_UnlikeTags : mg "UnlikeTags" = some (.ref e_UnlikeTags)
  e_TooMany : Addr
  me_TooMany : mg "TooMany" = some (.ref e_TooMany)
  d_TooMany___init__ : QB.DefAt K "__init__" "TooMany.__init__" s_TooMany___init__ ["self", "limit"]
  xt_TooMany : QX.ExcT K e_TooMany d_TooMany___init__.a "limit"
  ex_InvalidTags : PySem.W.exmOne K (.ref e_InvalidTags) (.ref e_TagError) = some true
  kv_InvalidTags : PySem.W.kitOne K (.ref e_InvalidTags) (.type "ValueError") = some true
  ki_InvalidTags_TagError : PySem.W.kitOne K (.ref e_InvalidTags) (.ref e_TagError) = some true
  ki_InvalidTags_InvalidTags : PySem.W.kitOne K (.ref e_InvalidTags) (.ref e_InvalidTags) = some true
  ki_InvalidTags_InvalidSubject : PySem.W.kitOne K (.ref e_InvalidTags) (.ref e_InvalidSubject) = some false
  ki_InvalidTags_InvalidEater : PySem.W.kitOne K (.ref e_InvalidTags) (.ref e_InvalidEater) = some false
  ki_InvalidTags_InvalidNumber : PySem.W.kitOne K (.ref e_InvalidTags) (.ref e_InvalidNumber) = some false
  ki_InvalidTags_InvalidPrograms : PySem.W.kitOne K (.ref e_InvalidTags) (.ref e_InvalidPrograms) = some false
  ki_InvalidTags_InvalidStarts : PySem.W.kitOne K (.ref e_InvalidTags) (.ref e_InvalidStarts) = some false
  ki_InvalidTags_UnlikeTags : PySem.W.kitOne K (.ref e_InvalidTags) (.ref e_UnlikeTags) = some false
  ki_InvalidTags_TooMany : PySem.W.kitOne K (.ref e_InvalidTags) (.ref e_TooMany) = some false
  ex_InvalidSubject : PySem.W.exmOne K (.ref e_InvalidSubject) (.ref e_TagError) = some true
  kv_InvalidSubject : PySem.W.kitOne K (.ref e_InvalidSubject) (.type "ValueError") = some true
  ki_InvalidSubject_TagError : PySem.W.kitOne K (.ref e_InvalidSubject) (.ref e_TagError) = some true
  ki_InvalidSubject_InvalidTags : PySem.W.kitOne K (.ref e_InvalidSubject) (.ref e_InvalidTags) = some false
  ki_InvalidSubject_InvalidSubject : PySem.W.kitOne K (.ref e_InvalidSubject) (.ref e_InvalidSubject) = some true
  ki_InvalidSubject_InvalidEater : PySem.W.kitOne K (.ref e_InvalidSubject) (.ref e_InvalidEater) = some false
  ki_InvalidSubject_InvalidNumber : PySem.W.kitOne K (.ref e_InvalidSubject) (.ref e_InvalidNumber) = some false
  ki_InvalidSubject_InvalidPrograms : PySem.W.kitOne K (.ref e_InvalidSubject) (.ref e_InvalidPrograms) = some false
  ki_InvalidSubject_InvalidStarts : PySem.W.kitOne K (.ref e_InvalidSubject) (.ref e_InvalidStarts) = some false
  ki_InvalidSubject_UnlikeTags : PySem.W.kitOne K (.ref e_InvalidSubject) (.ref e_UnlikeTags) = some false
  ki_InvalidSubject_TooMany : PySem.W.kitOne K (.ref e_InvalidSubject) (.ref e_TooMany) = some false
  ex_InvalidEater : PySem.W.exmOne K (.ref e_InvalidEater) (.ref e_TagError) = some true
  kv_InvalidEater : PySem.W.kitOne K (.ref e_InvalidEater) (.type "ValueError") = some true
  ki_InvalidEater_TagError : PySem.W.kitOne K (.ref e_InvalidEater) (.ref e_TagError) = some true
  ki_InvalidEater_InvalidTags : PySem.W.kitOne K (.ref e_InvalidEater) (.ref e_InvalidTags) = some false
  ki_InvalidEater_InvalidSubject : PySem.W.kitOne K (.ref e_InvalidEater) (.ref e_InvalidSubject) = some false
  ki_InvalidEater_InvalidEater : PySem.W.kitOne K (.ref e_InvalidEater) (.ref e_InvalidEater) = some true
  ki_InvalidEater_InvalidNumber : PySem.W.kitOne K (.ref e_InvalidEater) (.ref e_InvalidNumber) = some false
  ki_InvalidEater_InvalidPrograms : PySem.W.kitOne K (.ref e_InvalidEater) (.ref e_InvalidPrograms) = some false
  ki_InvalidEater_InvalidStarts : PySem.W.kitOne K (.ref e_InvalidEater) (.ref e_InvalidStarts) = some false
  ki_InvalidEater_UnlikeTags : PySem.W.kitOne K (.ref e_InvalidEater) (.ref e_UnlikeTags) = some false
  ki_InvalidEater_TooMany : PySem.W.kitOne K (.ref e_InvalidEater) (.ref e_TooMany) = some false
  ex_InvalidNumber : PySem.W.exmOne K (.ref e_InvalidNumber) (.ref e_TagError) = some true
  kv_InvalidNumber : PySem.W.kitOne K (.ref e_InvalidNumber) (.type "ValueError") = some true
  ki_InvalidNumber_TagError : PySem.W.kitOne K (.ref e_InvalidNumber) (.ref e_TagError) = some true
  ki_InvalidNumber_InvalidTags : PySem.W.kitOne K (.ref e_InvalidNumber) (.ref e_InvalidTags) = some false
  ki_InvalidNumber_InvalidSubject : PySem.W.kitOne K (.ref e_InvalidNumber) (.ref e_InvalidSubject) = some false
  ki_InvalidNumber_InvalidEater : PySem.W.kitOne K (.ref e_InvalidNumber) (.ref e_InvalidEater) = some false
  ki_InvalidNumber_InvalidNumber : PySem.W.kitOne K (.ref e_InvalidNumber) (.ref e_InvalidNumber) = some true
  ki_InvalidNumber_InvalidPrograms : PySem.W.kitOne K (.ref e_InvalidNumber) (.ref e_InvalidPrograms) = some false
  ki_InvalidNumber_InvalidStarts : PySem.W.kitOne K (.ref e_InvalidNumber) (.ref e_InvalidStarts) = some false
  ki_InvalidNumber_UnlikeTags : PySem.W.kitOne K (.ref e_InvalidNumber) (.ref e_UnlikeTags) = some false
  ki_InvalidNumber_TooMany : PySem.W.kitOne K (.ref e_InvalidNumber) (.ref e_TooMany) = some false
  ex_InvalidPrograms : PySem.W.exmOne K (.ref e_InvalidPrograms) (.ref e_TagError) = some true
  kv_InvalidPrograms : PySem.W.kitOne K (.ref e_InvalidPrograms) (.type "ValueError") = some true
  ki_InvalidPrograms_TagError : PySem.W.kitOne K (.ref e_InvalidPrograms) (.ref e_TagError) = some true
  ki_InvalidPrograms_InvalidTags : PySem.W.kitOne K (.ref e_InvalidPrograms) (.ref e_InvalidTags) = some false
  ki_InvalidPrograms_InvalidSubject : PySem.W.kitOne K (.ref e_InvalidPrograms) (.ref e_InvalidSubject) = some false
  ki_InvalidPrograms_InvalidEater : PySem.W.kitOne K (.ref e_InvalidPrograms) (.ref e_InvalidEater) = some false
  ki_InvalidPrograms_InvalidNumber : PySem.W.kitOne K (.ref e_InvalidPrograms) (.ref e_InvalidNumber) = some false
  ki_InvalidPrograms_InvalidPrograms : PySem.W.kitOne K (.ref e_InvalidPrograms) (.ref e_InvalidPrograms) = some true
  ki_InvalidPrograms_InvalidStarts : PySem.W.kitOne K (.ref e_InvalidPrograms) (.ref e_InvalidStarts) = some false
  ki_InvalidPrograms_UnlikeTags : PySem.W.kitOne K (.ref e_InvalidPrograms) (.ref e_UnlikeTags) = some false
  ki_InvalidPrograms_TooMany : PySem.W.kitOne K (.ref e_InvalidPrograms) (.ref e_TooMany) = some false
  ex_InvalidStarts : PySem.W.exmOne K (.ref e_InvalidStarts) (.ref e_TagError) = some true
  kv_InvalidStarts : PySem.W.kitOne K (.ref e_InvalidStarts) (.type "ValueError") = some true
  ki_InvalidStarts_TagError : PySem.W.kitOne K (.ref e_InvalidStarts) (.ref e_TagError) = some true
  ki_InvalidStarts_InvalidTags : PySem.W.kitOne K (.ref e_InvalidStarts) (.ref e_InvalidTags) = some false
  ki_InvalidStarts_InvalidSubject : PySem.W.kitOne K (.ref e_InvalidStarts) (.ref e_InvalidSubject) = some false
  ki_InvalidStarts_InvalidEater : PySem.W.kitOne K (.ref e_InvalidStarts) (.ref e_InvalidEater) = some false
  ki_InvalidStarts_InvalidNumber : PySem.W.kitOne K (.ref e_InvalidStarts) (.ref e_InvalidNumber) = some false
  ki_InvalidStarts_InvalidPrograms : PySem.W.kitOne K (.ref e_InvalidStarts) (.ref e_InvalidPrograms) = some false
  ki_InvalidStarts_InvalidStarts : PySem.W.kitOne K (.ref e_InvalidStarts) (.ref e_InvalidStarts) = some true
  ki_InvalidStarts_UnlikeTags : PySem.W.kitOne K (.ref e_InvalidStarts) (.ref e_UnlikeTags) = some false
  ki_InvalidStarts_TooMany : PySem.W.kitOne K (.ref e_InvalidStarts) (.ref e_TooMany) = some false
  nx_UnlikeTags : QM2.NewX K e_UnlikeTags
  ex_UnlikeTags : PySem.W.exmOne K (.ref e_UnlikeTags) (.ref e_TagError) = some true
  kv_UnlikeTags : PySem.W.kitOne K (.ref e_UnlikeTags) (.type "ValueError") = some true
  ki_UnlikeTags_TagError : PySem.W.kitOne K (.ref e_UnlikeTags) (.ref e_TagError) = some true
  ki_UnlikeTags_InvalidTags : PySem.W.kitOne K (.ref e_UnlikeTags) (.ref e_InvalidTags) = some false
  ki_UnlikeTags_InvalidSubject : PySem.W.kitOne K (.ref e_UnlikeTags) (.ref e_InvalidSubject) = some false
  ki_UnlikeTags_InvalidEater : PySem.W.kitOne K (.ref e_UnlikeTags) (.ref e_InvalidEater) = some false
  ki_UnlikeTags_InvalidNumber : PySem.W.kitOne K (.ref e_UnlikeTags) (.ref e_InvalidNumber) = some false
  ki_UnlikeTags_InvalidPrograms : PySem.W.kitOne K (.ref e_UnlikeTags) (.ref e_InvalidPrograms) = some false
  ki_UnlikeTags_InvalidStarts : PySem.W.kitOne K (.ref e_UnlikeTags) (.ref e_InvalidStarts) = some false
  ki_UnlikeTags_UnlikeTags : PySem.W.kitOne K (.ref e_UnlikeTags) (.ref e_UnlikeTags) = some true
  ki_UnlikeTags_TooMany : PySem.W.kitOne K (.ref e_UnlikeTags) (.ref e_TooMany) = some false
  ex_TooMany : PySem.W.exmOne K (.ref e_TooMany) (.ref e_TagError) = some true
  kv_TooMany : PySem.W.kitOne K (.ref e_TooMany) (.type "ValueError") = some true
  ki_TooMany_TagError : PySem.W.kitOne K (.ref e_TooMany) (.ref e_TagError) = some true
  ki_TooMany_InvalidTags : PySem.W.kitOne K (.ref e_TooMany) (.ref e_InvalidTags) = some false
  ki_TooMany_InvalidSubject : PySem.W.kitOne K (.ref e_TooMany) (.ref e_InvalidSubject) = some false
  ki_TooMany_InvalidEater : PySem.W.kitOne K (.ref e_TooMany) (.ref e_InvalidEater) = some false
  ki_TooMany_InvalidNumber : PySem.W.kitOne K (.ref e_TooMany) (.ref e_InvalidNumber) = some false
  ki_TooMany_InvalidPrograms : PySem.W.kitOne K (.ref e_TooMany) (.ref e_InvalidPrograms) = some false
  ki_TooMany_InvalidStarts : PySem.W.kitOne K (.ref e_TooMany) (.ref e_InvalidStarts) = some false
  ki_TooMany_UnlikeTags : PySem.W.kitOne K (.ref e_TooMany) (.ref e_UnlikeTags) = some false
  ki_TooMany_TooMany : PySem.W.kitOne K (.ref e_TooMany) (.ref e_TooMany) = some true
  c_Eater : Addr
  m_Eater : mg "Eater" = some (.ref c_Eater)
  cl_Eater : Cls K c_Eater
  oc_Eater : QO.OwnC K c_Eater
  d_Eater___init__ : QB.DefAt K "__init__" "Eater.__init__" s_Eater___init__ ["self", "tags", "standings"]
  d_Eater___len__ : QB.DefAt K "__len__" "Eater.__len__" s_Eater___len__ ["self"]
  h_Eater___len__ : Meth K c_Eater "__len__" d_Eater___len__.a
  d_Eater___eq__ : QB.DefAt K "__eq__" "Eater.__eq__" s_Eater___eq__ ["self", "other"]
  h_Eater___eq__ : Meth K c_Eater "__eq__" d_Eater___eq__.a
  d_Eater___contains__ : QB.DefAt K "__contains__" "Eater.__contains__" s_Eater___contains__ ["self", "x"]
  h_Eater___contains__ : Meth K c_Eater "__contains__" d_Eater___contains__.a
  d_Eater_tags : QB.DefAt K "tags" "Eater.tags" s_Eater_tags ["self"]
  h_Eater_tags : Meth K c_Eater "tags" d_Eater_tags.a
  d_Eater_standings : QB.DefAt K "standings" "Eater.standings" s_Eater_standings ["self"]
  h_Eater_standings : Meth K c_Eater "standings" d_Eater_standings.a
  d_Eater_on : QB.DefAt K "on" "Eater.on" s_Eater_on ["self", "subject"]
  h_Eater_on : Meth K c_Eater "on" d_Eater_on.a
  d_Eater_settled : QB.DefAt K "settled" "Eater.settled" s_Eater_settled ["self", "word"]
  h_Eater_settled : Meth K c_Eater "settled" d_Eater_settled.a
  d_Eater_then : QB.DefAt K "then" "Eater.then" s_Eater_then ["self", "other"]
  h_Eater_then : Meth K c_Eater "then" d_Eater_then.a
  d_Eater_power : QB.DefAt K "power" "Eater.power" s_Eater_power ["self", "times"]
  h_Eater_power : Meth K c_Eater "power" d_Eater_power.a
  mk_Eater : Mk K c_Eater d_Eater___init__.a
  na_Eater__standings : NoAttr K c_Eater "_standings"
  na_Eater__tags : NoAttr K c_Eater "_tags"
  c_Mailbox : Addr
  m_Mailbox : mg "Mailbox" = some (.ref c_Mailbox)
  cl_Mailbox : Cls K c_Mailbox
  d_Mailbox___init__ : QB.DefAt K "__init__" "Mailbox.__init__" s_Mailbox___init__ ["self", "programs", "key"]
  d_Mailbox___len__ : QB.DefAt K "__len__" "Mailbox.__len__" s_Mailbox___len__ ["self"]
  h_Mailbox___len__ : Meth K c_Mailbox "__len__" d_Mailbox___len__.a
  d_Mailbox___getitem__ : QB.DefAt K "__getitem__" "Mailbox.__getitem__" s_Mailbox___getitem__ ["self", "number"]
  h_Mailbox___getitem__ : Meth K c_Mailbox "__getitem__" d_Mailbox___getitem__.a
  d_Mailbox___iter__ : QB.DefAt K "__iter__" "Mailbox.__iter__" s_Mailbox___iter__ ["self"]
  h_Mailbox___iter__ : Meth K c_Mailbox "__iter__" d_Mailbox___iter__.a
  d_Mailbox_begin : QB.DefAt K "begin" "Mailbox.begin" s_Mailbox_begin ["self", "subject"]
  h_Mailbox_begin : Meth K c_Mailbox "begin" d_Mailbox_begin.a
  d_Mailbox_answer : QB.DefAt K "answer" "Mailbox.answer" s_Mailbox_answer ["self", "number", "program"]
  h_Mailbox_answer : Meth K c_Mailbox "answer" d_Mailbox_answer.a
  d_Mailbox_key_of : QB.DefAt K "key_of" "Mailbox.key_of" s_Mailbox_key_of ["self", "number"]
  h_Mailbox_key_of : Meth K c_Mailbox "key_of" d_Mailbox_key_of.a
  d_Mailbox_talk : QB.DefAt K "talk" "Mailbox.talk" s_Mailbox_talk ["self", "number"]
  h_Mailbox_talk : Meth K c_Mailbox "talk" d_Mailbox_talk.a
  d_Mailbox_talks : QB.DefAt K "talks" "Mailbox.talks" s_Mailbox_talks ["self"]
  h_Mailbox_talks : Meth K c_Mailbox "talks" d_Mailbox_talks.a
  d_Mailbox_tried : QB.DefAt K "tried" "Mailbox.tried" s_Mailbox_tried ["self", "number", "program"]
  h_Mailbox_tried : Meth K c_Mailbox "tried" d_Mailbox_tried.a
  d_Mailbox_undo : QB.DefAt K "undo" "Mailbox.undo" s_Mailbox_undo ["self"]
  h_Mailbox_undo : Meth K c_Mailbox "undo" d_Mailbox_undo.a
  d_Mailbox_trial : QB.DefAt K "trial" "Mailbox.trial" s_Mailbox_trial ["self"]
  h_Mailbox_trial : Meth K c_Mailbox "trial" d_Mailbox_trial.a
  d_Mailbox__come : QB.DefAt K "_come" "Mailbox._come" s_Mailbox__come ["self", "subject"]
  h_Mailbox__come : Meth K c_Mailbox "_come" d_Mailbox__come.a
  d_Mailbox__answered : QB.DefAt K "_answered" "Mailbox._answered" s_Mailbox__answered ["self", "number", "program"]
  h_Mailbox__answered : Meth K c_Mailbox "_answered" d_Mailbox__answered.a
  d_Mailbox__with_key : QB.DefAt K "_with_key" "Mailbox._with_key" s_Mailbox__with_key ["self", "key"]
  h_Mailbox__with_key : Meth K c_Mailbox "_with_key" d_Mailbox__with_key.a
  mk_Mailbox : Mk K c_Mailbox d_Mailbox___init__.a
  na_Mailbox__key : NoAttr K c_Mailbox "_key"
  na_Mailbox__letters : NoAttr K c_Mailbox "_letters"
  na_Mailbox__programs : NoAttr K c_Mailbox "_programs"
section
variable {P : Program} {w : World} {K : PySem.W.Frag} {mg : Str → Option Value} {base : Heap}

def spWalked (K : PySem.W.Frag) : Sp := fun vs H Q _ => ∃ (a b c : Addr) (tags : List Str) (F : Form) (wd : Word), vs = [.ref a, .ref b, .ref c] ∧ WordAt H a tags ∧ FormAt H b F ∧ WordAt H c wd ∧ Good tags F ∧ (∀ t ∈ wd, t ∈ tags) ∧ wd.length ≤ 100000 ∧
  ∀ (p : Addr) (H' : Hp), Same H H' → H p = none → H' p = some (.tup [.int ((walk tags F wd).1 : Int), .int ((walk tags F wd).2 : Int)]) → Q (.ref p) H'
theorem ok_walked (X : TX K mg) : FnOk P w K mg base CX0 1 X.d_walked.a X.d_walked.fd ["tags", "standings", "word"] (spWalked K) := by
  have nd := sc_walked.nd
  refine X.d_walked.F.ok sc_walked (fun vs H Q E h => ?_) (fun cdv A outer s H vs Q E hr h => ?_)
  · obtain ⟨a, b, c, tags, F, wd, rfl, _⟩ := h
    rfl
  · obtain ⟨a, b, c, tags, F, wd, rfl, hT, hF, hw, g, hin, hz, k⟩ := h
    refine ⟨_, (pss_cons (ps_set (i := 3) nd rfl (Or.inl rfl) pe_int) (pss_cons (ps_for PassesOwn.never rfl (QB.pi_enumK K (by rfl) X.n_enumerate (pa_cons (pv 2) pa_nil)) (pg_tup (by rfl) (pgs_cons (pg_name (i := 4) nd rfl (Or.inl rfl)) (pgs_cons (pg_name (i := 5) nd rfl (Or.inl rfl)) (pgs_nil)))) (pss_cons (ps_set (i := 6) nd rfl (Or.inl rfl) (pe_ix (QB.ix_listK K) (pe_ix (QB.ix_tupK K) (pe_ix (QB.ix_listK K) (pv 1) (pv 3) (fun _ _ => rfl)) pe_int (fun _ _ => rfl)) (QB.pe_bmK K PySem.F.plainAttrs_list PySem.F.slot_list_index PySem.F.type_list_index (QB.mt_indexK K) (pv 0) (pa_cons (pv 5) pa_nil)) (fun _ _ => rfl))) (pss_cons (ps_if (pt_cmpR op_isN (pv 6) pe_non (nomark _)) (pss_one (ps_ret (pe_tup (pa_cons (pv 3) (pa_cons (pv 4) pa_nil))))) pss_nil) (pss_one (ps_set (i := 3) nd rfl (Or.inl rfl) (pv 6)))))) (pss_one (ps_ret (pe_tup (pa_cons (pv 3) (pa_cons (pe_callB (QB.call_lenK K) (by rfl) X.n_len PySem.boot_len (pa_cons (pv 2) pa_nil)) pa_nil))))))), ?_⟩
    try dsimp only [Cx.nox, Cx.wish, cxOf]
    refine ⟨_, rfl, _, _, rfl, SqL.of hw, ?_⟩
    refine for_it (walk_enumW (K := K) (a := c) (w := wd)) (fun i σ H' => ∃ (at_ : Nat) (v4 v5 v6 : Option V), σ = [some (.ref a), some (.ref b), some (.ref c), some (.int (at_ : Int)), v4, v5, v6] ∧ Same H H' ∧ at_ < F.length ∧ walkFrom tags F at_ i (wd.drop i) = walk tags F wd)
      ⟨0, none, none, none, rfl, Same.refl H, g.pos, rfl⟩ (fun i σ H' _ ⟨_, _, _, _, _, s1, _⟩ => Same.word s1 hw) ?_ ?_
    · rintro i v σ H1 H2 hi ⟨at_, v4, v5, v6, rfl, s1, hat, hwk⟩ ⟨tp, x, hx, ntp, rfl, rfl⟩
      have s2 : Same H (upd H1 tp (.tup [.int (i : Int), .str x])) := Same.new s1 ntp
      have eF : F[at_]? = some F[at_] := by simp [hat]
      have hxt : x ∈ tags := hin x (List.mem_of_getElem? hx)
      obtain ⟨vs, t, p1, p2, f1, f2, f3, f4, f5, f6⟩ := (Same.form s2 hF).at eF
      have ed : wd.drop i = x :: wd.drop (i + 1) := (List.drop_eq_getElem_cons hi).trans (by rw [List.getElem?_eq_getElem hi] at hx; rw [Option.some.inj hx])
      rw [ed] at hwk
      unfold walkFrom at hwk
      rw [wayAt_of eF] at hwk
      refine ⟨tp, _, rfl, SqT.of upd_same, rfl, _, _, rfl, _, _, rfl, rfl, ?_⟩
      refine ⟨_, rfl, _, rfl, _, _, _, _, rfl, rfl, SqL.of f1, atI_nat f3, _, _, _, _, rfl, rfl, SqT.of f4, rfl, ?_⟩
      refine ⟨_, rfl, .inl ⟨rfl, _, SqL.of (Same.word s2 hT)⟩, _, rfl, ?_⟩
      dsimp only [tNil]
      refine index_word (Same.word s2 hT) hxt ?_
      refine ⟨_, _, _, _, rfl, rfl, SqL.of f6, atI_nat (vWs_get (g.way eF hxt)), ?_⟩
      refine ⟨_, rfl, rfl, _, rfl, ?_⟩
      cases e : way tags F[at_] x with
      | none =>
        rw [e] at hwk
        refine iteT ?_
        refine ⟨_, rfl, _, rfl, (by show 2 ≤ sizeLine; decide), fun p hp => ?_⟩
        refine k p _ (Same.new s2 hp) (Same.free s2 hp) ?_
        rw [← hwk]
        exact upd_same
      | some n =>
        rw [e] at hwk
        refine iteF ?_
        exact ⟨_, rfl, n, _, _, _, rfl, s2, g.wayLt eF hxt e, hwk⟩
    · rintro σ H1 ⟨at_, v4, v5, v6, rfl, s1, hat, hwk⟩
      rw [List.drop_length] at hwk
      refine ⟨_, rfl, _, rfl, _, _, rfl, .inl (SqL.of (Same.word s1 hw)), (by show 2 ≤ sizeLine; decide), fun p hp => ?_⟩
      refine k p _ (Same.new s1 hp) (Same.free s1 hp) ?_
      rw [← hwk, vS_len]
      exact upd_same

def spMade : Sp := fun vs H Q _ => ∃ (a b c : Addr) (tags : List Str) (F : Form) (wd : Word), vs = [.ref a, .ref b, .ref c] ∧ WordAt H a tags ∧ FormAt H b F ∧ WordAt H c wd ∧ Good tags F ∧ (∀ t ∈ wd, t ∈ tags) ∧ wd.length ≤ 10000 ∧ (∀ s ∈ F, s.1.length ≤ 10000) ∧
  ∀ (p : Addr) (H' : Hp), Same H H' → H p = none → H' p = some (.lst (vS (make tags F wd))) → Q (.ref p) H'
theorem ok_made (X : TX K mg) : FnOk P w K mg base CX0 2 X.d_made.a X.d_made.fd ["tags", "standings", "subject"] spMade := by
  have nd := sc_made.nd
  refine X.d_made.F.ok sc_made (fun vs H Q E h => ?_) (fun cdv A outer s H vs Q E hr h => ?_)
  · obtain ⟨a, b, c, tags, F, wd, rfl, _⟩ := h
    rfl
  · obtain ⟨a, b, c, tags, F, wd, rfl, hT, hF, hw, g, hin, hz, hz2, k⟩ := h
    refine ⟨_, (pss_cons (ps_asg (pe_call (ok_walked X) (hr.mono (by decide)) rfl X.d_walked.mg X.d_walked.F.kp X.d_walked.b .nil pass0 (pa_cons (pv 0) (pa_cons (pv 1) (pa_cons (pv 2) pa_nil)))) (pg_tup (by rfl) (pgs_cons (pg_name (i := 3) nd rfl (Or.inl rfl)) (pgs_cons (pg_name (i := 4) nd rfl (Or.inl rfl)) (pgs_nil))))) (pss_one (ps_ret (pe_op op_cat (pe_ix (QB.ix_tupK K) (pe_ix (QB.ix_listK K) (pv 1) (pv 3) (fun _ _ => rfl)) pe_int (fun _ _ => rfl)) (pe_slice (QB.sl_listK K) (pv 2) (po_some (pv 4)) po_none))))), ?_⟩
    try dsimp only [Cx.nox, Cx.wish, cxOf]
    refine ⟨_, rfl, _, rfl, _, rfl, ?_⟩
    refine ⟨a, b, c, tags, F, wd, rfl, hT, hF, hw, g, hin, Nat.le_trans hz (by decide), fun tp H1 s1 ntp h1 => ?_⟩
    refine ⟨tp, _, rfl, SqT.of h1, rfl, _, _, rfl, _, _, rfl, rfl, ?_⟩
    have hwl := (walk_lt g hin).1
    have eF : F[(walk tags F wd).1]? = some F[(walk tags F wd).1] := List.getElem?_eq_getElem hwl
    obtain ⟨vs, t, p1, p2, f1, f2, f3, f4, f5, f6⟩ := (Same.form s1 hF).at eF
    refine ⟨_, rfl, _, rfl, _, _, _, _, rfl, rfl, SqL.of f1, atI_nat f3, _, _, _, _, rfl, rfl, SqT.of f4, rfl, ?_⟩
    refine ⟨_, rfl, _, rfl, _, rfl, _, _, rfl, SqL.of (Same.word s1 hw), fun q hq => ?_⟩
    rw [cut_drop, vS_drop]
    refine ⟨_, _, _, _, rfl, rfl, Eq.trans (upd_ne (ne_of_none f5 hq)) f5, upd_same, ?_, fun p hp => ?_⟩
    · have z1 := hz2 _ (mem_of eF)
      have z2 : (wd.drop (walk tags F wd).2).length ≤ wd.length := by rw [List.length_drop]; omega
      rw [vS_len, vS_len]
      exact sz_le (by omega)
    · have s2 : Same H (upd H1 q (.lst (vS (wd.drop (walk tags F wd).2)))) := Same.new s1 hq
      refine k p _ (Same.new s2 hp) (Same.free s2 hp) ?_
      rw [upd_same, vS_append]
      unfold make
      rw [wordOf_of eF]

def spSettledAt : Sp := fun vs H Q _ => ∃ (t a b : Addr) (ws : Ways), vs = [.ref t] ∧ H t = some (.tup [.ref a, .ref b]) ∧ WaysAt H b ws ∧ ws.length ≤ 1000 ∧ ∀ H', Same H H' → Q (.bl (ws.all Option.isNone)) H'
theorem ok_is_settled_at (X : TX K mg) : FnOk P w K mg base CX0 1 X.d_is_settled_at.a X.d_is_settled_at.fd ["standing"] spSettledAt := by
  have nd := sc_is_settled_at.nd
  refine X.d_is_settled_at.F.ok sc_is_settled_at (fun vs H Q E h => ?_) (fun cdv A outer s H vs Q E hr h => ?_)
  · obtain ⟨t, a, b, ws, rfl, _⟩ := h
    rfl
  · obtain ⟨t, a, b, ws, rfl, ht, hw, hz, k⟩ := h
    refine ⟨_, (pss_one (ps_ret (pe_callB (QB.cr_allK K rfl) (by rfl) X.n_all QB.bo_all (pa_cons (pe_lc (own := [("way", 1)]) (g := gName 1) (tt := tYes) rfl nd (QB.pi_listK K (pe_ix (QB.ix_tupK K) (pv 0) pe_int (fun _ _ => rfl))) (blkOk_by (N := ["standing", "way"]) (sc := defScope s_is_settled_at) (by decide +kernel)) (fun _ _ _ _ _ => pg_name (i := 1) nd rfl (Or.inl rfl)) (fun _ _ _ _ _ => pts_nil) (fun _ _ _ _ _ => (pe_cmpR op_isN (pv 1) pe_non (nomark _)))) pa_nil)))), ?_⟩
    try dsimp only [Cx.nox, Cx.wish, cxOf]
    refine ⟨_, rfl, _, _, _, _, rfl, rfl, SqT.of ht, rfl, _, rfl, ⟨_, SqL.of hw⟩, fun D hD => ?_⟩
    refine lc_map (walk_listWs (K := K) (a := b) (ws := ws)) hD (by omega) (fun H1 s1 => Same.ways s1 hw) (fun i => .bl ((ws[i]?).join.isNone)) ?_ ?_
    · rintro i x H1 H2 kk hi s1 ⟨y, hy, rfl, rfl⟩ hk
      refine ⟨rfl, _, rfl, rfl, ?_⟩
      have e := hk H2 (Same.refl H2)
      rw [hy] at e
      rw [vW_is]
      exact e
    · intro H1 s1 e
      rw [range_map_get _ ws (fun x => .bl x.isNone) (fun i x hx => by rw [hx]; rfl)] at e
      refine ⟨_, ws.map Option.isNone, rfl, SqL.of (by rw [e, List.map_map]; rfl), ?_⟩
      have e2 := k H1 s1
      rw [List.all_map]
      exact e2
end
end Law
end

section
set_option Elab.async false
set_option linter.all false
set_option maxRecDepth 100000
set_option maxHeartbeats 0
namespace Law
open PySem PySem.Spec PyProof.Rows L2 LamX QB QM
def dds : List He.DefD := [⟨("_wall", none), "_wall", "_wall", defArgs s__wall, defBody s__wall, defScope s__wall, [], []⟩,
  ⟨("is_number", none), "is_number", "is_number", defArgs s_is_number, defBody s_is_number, defScope s_is_number, [], []⟩,
  ⟨("is_list", none), "is_list", "is_list", defArgs s_is_list, defBody s_is_list, defScope s_is_list, [], []⟩,
  ⟨("is_name", none), "is_name", "is_name", defArgs s_is_name, defBody s_is_name, defScope s_is_name, [], []⟩,
  ⟨("is_tag", none), "is_tag", "is_tag", defArgs s_is_tag, defBody s_is_tag, defScope s_is_tag, [], []⟩,
  ⟨("is_subject", none), "is_subject", "is_subject", defArgs s_is_subject, defBody s_is_subject, defScope s_is_subject, [], []⟩,
  ⟨("is_standing", none), "is_standing", "is_standing", defArgs s_is_standing, defBody s_is_standing, defScope s_is_standing, [], []⟩,
  ⟨("check_tags", none), "check_tags", "check_tags", defArgs s_check_tags, defBody s_check_tags, defScope s_check_tags, [], []⟩,
  ⟨("check_word", none), "check_word", "check_word", defArgs s_check_word, defBody s_check_word, defScope s_check_word, [], []⟩,
  ⟨("check_standings", none), "check_standings", "check_standings", defArgs s_check_standings, defBody s_check_standings, defScope s_check_standings, [], []⟩,
  ⟨("check_number", none), "check_number", "check_number", defArgs s_check_number, defBody s_check_number, defScope s_check_number, [], []⟩,
  ⟨("walked", none), "walked", "walked", defArgs s_walked, defBody s_walked, defScope s_walked, [], []⟩,
  ⟨("made", none), "made", "made", defArgs s_made, defBody s_made, defScope s_made, [], []⟩,
  ⟨("is_settled_at", none), "is_settled_at", "is_settled_at", defArgs s_is_settled_at, defBody s_is_settled_at, defScope s_is_settled_at, [], []⟩,
  ⟨("is_made_at", none), "is_made_at", "is_made_at", defArgs s_is_made_at, defBody s_is_made_at, defScope s_is_made_at, [], []⟩,
  ⟨("copied", none), "copied", "copied", defArgs s_copied, defBody s_copied, defScope s_copied, [], []⟩,
  ⟨("without_needless_ways", none), "without_needless_ways", "without_needless_ways", defArgs s_without_needless_ways, defBody s_without_needless_ways, defScope s_without_needless_ways, [], []⟩,
  ⟨("numbered", none), "numbered", "numbered", defArgs s_numbered, defBody s_numbered, defScope s_numbered, [], []⟩,
  ⟨("parted", none), "parted", "parted", defArgs s_parted, defBody s_parted, defScope s_parted, [], []⟩,
  ⟨("alike_classes", none), "alike_classes", "alike_classes", defArgs s_alike_classes, defBody s_alike_classes, defScope s_alike_classes, [], []⟩,
  ⟨("in_order_met", none), "in_order_met", "in_order_met", defArgs s_in_order_met, defBody s_in_order_met, defScope s_in_order_met, [], []⟩,
  ⟨("least_form", none), "least_form", "least_form", defArgs s_least_form, defBody s_least_form, defScope s_least_form, [], []⟩,
  ⟨("check_same_tags", none), "check_same_tags", "check_same_tags", defArgs s_check_same_tags, defBody s_check_same_tags, defScope s_check_same_tags, [], []⟩,
  ⟨("check_programs", none), "check_programs", "check_programs", defArgs s_check_programs, defBody s_check_programs, defScope s_check_programs, [], []⟩,
  ⟨("_law_mixed", none), "_law_mixed", "_law_mixed", defArgs s__law_mixed, defBody s__law_mixed, defScope s__law_mixed, [], []⟩,
  ⟨("_law_pile", none), "_law_pile", "_law_pile", defArgs s__law_pile, defBody s__law_pile, defScope s__law_pile, [], []⟩,
  ⟨("_law_take", none), "_law_take", "_law_take", defArgs s__law_take, defBody s__law_take, defScope s__law_take, [], []⟩,
  ⟨("_law_order", none), "_law_order", "_law_order", defArgs s__law_order, defBody s__law_order, defScope s__law_order, [], []⟩,
  ⟨("_law_tags", none), "_law_tags", "_law_tags", defArgs s__law_tags, defBody s__law_tags, defScope s__law_tags, [], []⟩,
  ⟨("_law_word", none), "_law_word", "_law_word", defArgs s__law_word, defBody s__law_word, defScope s__law_word, [], []⟩,
  ⟨("_law_standings", none), "_law_standings", "_law_standings", defArgs s__law_standings, defBody s__law_standings, defScope s__law_standings, [], []⟩,
  ⟨("_law_eaten", none), "_law_eaten", "_law_eaten", defArgs s__law_eaten, defBody s__law_eaten, defScope s__law_eaten, [], []⟩,
  ⟨("_law_row_done", none), "_law_row_done", "_law_row_done", defArgs s__law_row_done, defBody s__law_row_done, defScope s__law_row_done, [], []⟩,
  ⟨("_law_done", none), "_law_done", "_law_done", defArgs s__law_done, defBody s__law_done, defScope s__law_done, [], []⟩,
  ⟨("_law_told", none), "_law_told", "_law_told", defArgs s__law_told, defBody s__law_told, defScope s__law_told, [], []⟩,
  ⟨("_law_is_number", none), "_law_is_number", "_law_is_number", defArgs s__law_is_number, defBody s__law_is_number, defScope s__law_is_number, [], []⟩,
  ⟨("_law_number_due", none), "_law_number_due", "_law_number_due", defArgs s__law_number_due, defBody s__law_number_due, defScope s__law_number_due, [], []⟩,
  ⟨("_law_subject_due", none), "_law_subject_due", "_law_subject_due", defArgs s__law_subject_due, defBody s__law_subject_due, defScope s__law_subject_due, [], []⟩,
  ⟨("_law_programs_due", none), "_law_programs_due", "_law_programs_due", defArgs s__law_programs_due, defBody s__law_programs_due, defScope s__law_programs_due, [], []⟩,
  ⟨("_law_state", none), "_law_state", "_law_state", defArgs s__law_state, defBody s__law_state, defScope s__law_state, [], []⟩,
  ⟨("_law_long_right", none), "_law_long_right", "_law_long_right", defArgs s__law_long_right, defBody s__law_long_right, defScope s__law_long_right, [], []⟩,
  ⟨("law", none), "law", "law", defArgs s_law, defBody s_law, defScope s_law, [], []⟩,
  ⟨("InvalidTags", some "__init__"), "__init__", "InvalidTags.__init__", defArgs s_InvalidTags___init__, defBody s_InvalidTags___init__, defScope s_InvalidTags___init__, [], []⟩,
  ⟨("InvalidSubject", some "__init__"), "__init__", "InvalidSubject.__init__", defArgs s_InvalidSubject___init__, defBody s_InvalidSubject___init__, defScope s_InvalidSubject___init__, [], []⟩,
  ⟨("InvalidEater", some "__init__"), "__init__", "InvalidEater.__init__", defArgs s_InvalidEater___init__, defBody s_InvalidEater___init__, defScope s_InvalidEater___init__, [], []⟩,
  ⟨("InvalidNumber", some "__init__"), "__init__", "InvalidNumber.__init__", defArgs s_InvalidNumber___init__, defBody s_InvalidNumber___init__, defScope s_InvalidNumber___init__, [], []⟩,
  ⟨("InvalidPrograms", some "__init__"), "__init__", "InvalidPrograms.__init__", defArgs s_InvalidPrograms___init__, defBody s_InvalidPrograms___init__, defScope s_InvalidPrograms___init__, [], []⟩,
  ⟨("InvalidStarts", some "__init__"), "__init__", "InvalidStarts.__init__", defArgs s_InvalidStarts___init__, defBody s_InvalidStarts___init__, defScope s_InvalidStarts___init__, [], []⟩,
  ⟨("TooMany", some "__init__"), "__init__", "TooMany.__init__", defArgs s_TooMany___init__, defBody s_TooMany___init__, defScope s_TooMany___init__, [], []⟩,
  ⟨("Eater", some "__init__"), "__init__", "Eater.__init__", defArgs s_Eater___init__, defBody s_Eater___init__, defScope s_Eater___init__, [], []⟩,
  ⟨("Eater", some "__len__"), "__len__", "Eater.__len__", defArgs s_Eater___len__, defBody s_Eater___len__, defScope s_Eater___len__, [], []⟩,
  ⟨("Eater", some "__eq__"), "__eq__", "Eater.__eq__", defArgs s_Eater___eq__, defBody s_Eater___eq__, defScope s_Eater___eq__, [], []⟩,
  ⟨("Eater", some "__contains__"), "__contains__", "Eater.__contains__", defArgs s_Eater___contains__, defBody s_Eater___contains__, defScope s_Eater___contains__, [], []⟩,
  ⟨("Eater", some "tags"), "tags", "Eater.tags", defArgs s_Eater_tags, defBody s_Eater_tags, defScope s_Eater_tags, [], []⟩,
  ⟨("Eater", some "standings"), "standings", "Eater.standings", defArgs s_Eater_standings, defBody s_Eater_standings, defScope s_Eater_standings, [], []⟩,
  ⟨("Eater", some "on"), "on", "Eater.on", defArgs s_Eater_on, defBody s_Eater_on, defScope s_Eater_on, [], []⟩,
  ⟨("Eater", some "settled"), "settled", "Eater.settled", defArgs s_Eater_settled, defBody s_Eater_settled, defScope s_Eater_settled, [], []⟩,
  ⟨("Eater", some "then"), "then", "Eater.then", defArgs s_Eater_then, defBody s_Eater_then, defScope s_Eater_then, [], []⟩,
  ⟨("Eater", some "power"), "power", "Eater.power", defArgs s_Eater_power, defBody s_Eater_power, defScope s_Eater_power, [], []⟩,
  ⟨("Mailbox", some "__init__"), "__init__", "Mailbox.__init__", defArgs s_Mailbox___init__, defBody s_Mailbox___init__, defScope s_Mailbox___init__, [], []⟩,
  ⟨("Mailbox", some "__len__"), "__len__", "Mailbox.__len__", defArgs s_Mailbox___len__, defBody s_Mailbox___len__, defScope s_Mailbox___len__, [], []⟩,
  ⟨("Mailbox", some "__getitem__"), "__getitem__", "Mailbox.__getitem__", defArgs s_Mailbox___getitem__, defBody s_Mailbox___getitem__, defScope s_Mailbox___getitem__, [], []⟩,
  ⟨("Mailbox", some "__iter__"), "__iter__", "Mailbox.__iter__", defArgs s_Mailbox___iter__, defBody s_Mailbox___iter__, defScope s_Mailbox___iter__, [], []⟩,
  ⟨("Mailbox", some "begin"), "begin", "Mailbox.begin", defArgs s_Mailbox_begin, defBody s_Mailbox_begin, defScope s_Mailbox_begin, [], []⟩,
  ⟨("Mailbox", some "answer"), "answer", "Mailbox.answer", defArgs s_Mailbox_answer, defBody s_Mailbox_answer, defScope s_Mailbox_answer, [], []⟩,
  ⟨("Mailbox", some "key_of"), "key_of", "Mailbox.key_of", defArgs s_Mailbox_key_of, defBody s_Mailbox_key_of, defScope s_Mailbox_key_of, [], []⟩,
  ⟨("Mailbox", some "talk"), "talk", "Mailbox.talk", defArgs s_Mailbox_talk, defBody s_Mailbox_talk, defScope s_Mailbox_talk, [], []⟩,
  ⟨("Mailbox", some "talks"), "talks", "Mailbox.talks", defArgs s_Mailbox_talks, defBody s_Mailbox_talks, defScope s_Mailbox_talks, [], []⟩,
  ⟨("Mailbox", some "tried"), "tried", "Mailbox.tried", defArgs s_Mailbox_tried, defBody s_Mailbox_tried, defScope s_Mailbox_tried, [], []⟩,
  ⟨("Mailbox", some "undo"), "undo", "Mailbox.undo", defArgs s_Mailbox_undo, defBody s_Mailbox_undo, defScope s_Mailbox_undo, [], []⟩,
  ⟨("Mailbox", some "trial"), "trial", "Mailbox.trial", defArgs s_Mailbox_trial, defBody s_Mailbox_trial, defScope s_Mailbox_trial, [], []⟩,
  ⟨("Mailbox", some "_come"), "_come", "Mailbox._come", defArgs s_Mailbox__come, defBody s_Mailbox__come, defScope s_Mailbox__come, [], []⟩,
  ⟨("Mailbox", some "_answered"), "_answered", "Mailbox._answered", defArgs s_Mailbox__answered, defBody s_Mailbox__answered, defScope s_Mailbox__answered, [], []⟩,
  ⟨("Mailbox", some "_with_key"), "_with_key", "Mailbox._with_key", defArgs s_Mailbox__with_key, defBody s_Mailbox__with_key, defScope s_Mailbox__with_key, [], []⟩]
def fas : List He.Fa := [.free "TypeError", .free "ValueError", .free "abs", .free "all", .free "any", .free "bool", .free "enumerate", .free "int", .free "isinstance", .free "len", .free "list", .free "max", .free "range", .free "sorted", .free "str", .free "tuple", .free "zip", .str "LETTERS" "abcdefghijklmnopqrstuvwxyz", .int "MOST_LETTERS" 8, .int "MOST_TAGS" 6, .int "MOST_STANDINGS" 30, .int "LONGEST_WORD" 8, .int "LONGEST_SUBJECT" 200, .int "MOST_PROGRAMS" 6, .glo "_wall", .glo "is_number", .glo "is_list", .glo "is_name", .glo "is_tag", .glo "is_subject", .glo "is_standing", .glo "check_tags", .glo "check_word", .glo "check_standings", .glo "check_number", .glo "walked", .glo "made", .glo "is_settled_at", .glo "is_made_at", .glo "copied", .glo "without_needless_ways", .glo "numbered", .glo "parted", .glo "alike_classes", .glo "in_order_met", .glo "least_form", .glo "check_same_tags", .glo "check_programs", .glo "_law_mixed", .glo "_law_pile", .glo "_law_take", .glo "_law_order", .glo "_law_tags", .glo "_law_word", .glo "_law_standings", .glo "_law_eaten", .glo "_law_row_done", .glo "_law_done", .glo "_law_told", .glo "_law_is_number", .glo "_law_number_due", .glo "_law_subject_due", .glo "_law_programs_due", .glo "_law_state", .glo "_law_long_right", .glo "law", .glo "TagError", .glo "InvalidTags", .glo "InvalidSubject", .glo "InvalidEater", .glo "InvalidNumber", .glo "InvalidPrograms", .glo "InvalidStarts", .glo "UnlikeTags", .glo "TooMany", .glo "Eater", .cls "Eater", .meth "Eater" "__len__", .meth "Eater" "__eq__", .meth "Eater" "__contains__", .meth "Eater" "tags", .meth "Eater" "standings", .meth "Eater" "on", .meth "Eater" "settled", .meth "Eater" "then", .meth "Eater" "power", .mkr "Eater", .noat "Eater" "_standings", .noat "Eater" "_tags", .glo "Mailbox", .cls "Mailbox", .meth "Mailbox" "__len__", .meth "Mailbox" "__getitem__", .meth "Mailbox" "__iter__", .meth "Mailbox" "begin", .meth "Mailbox" "answer", .meth "Mailbox" "key_of", .meth "Mailbox" "talk", .meth "Mailbox" "talks", .meth "Mailbox" "tried", .meth "Mailbox" "undo", .meth "Mailbox" "trial", .meth "Mailbox" "_come", .meth "Mailbox" "_answered", .meth "Mailbox" "_with_key", .mkr "Mailbox", .noat "Mailbox" "_key", .noat "Mailbox" "_letters", .noat "Mailbox" "_programs"]
def exB (K : PySem.W.Frag) : Bool := QE.ownB K (He.ga K "Eater") && (QX.excTB K (He.ga K "InvalidTags") (He.fAd K ("InvalidTags", some "__init__")) "index" && (QX.excTB K (He.ga K "InvalidSubject") (He.fAd K ("InvalidSubject", some "__init__")) "index" && (QX.excTB K (He.ga K "InvalidEater") (He.fAd K ("InvalidEater", some "__init__")) "index" && (QX.excTB K (He.ga K "InvalidNumber") (He.fAd K ("InvalidNumber", some "__init__")) "number" && (QX.excTB K (He.ga K "InvalidPrograms") (He.fAd K ("InvalidPrograms", some "__init__")) "index" && (QX.excTB K (He.ga K "InvalidStarts") (He.fAd K ("InvalidStarts", some "__init__")) "index" && (QX.excTB K (He.ga K "TooMany") (He.fAd K ("TooMany", some "__init__")) "limit" && (QX.exmB K (He.ga K "InvalidTags") (He.ga K "TagError") && (QX.isTB K (He.ga K "InvalidTags") "ValueError" true && (QX.isB K (He.ga K "InvalidTags") (He.ga K "TagError") true && (QX.isB K (He.ga K "InvalidTags") (He.ga K "InvalidTags") true && (QX.isB K (He.ga K "InvalidTags") (He.ga K "InvalidSubject") false && (QX.isB K (He.ga K "InvalidTags") (He.ga K "InvalidEater") false && (QX.isB K (He.ga K "InvalidTags") (He.ga K "InvalidNumber") false && (QX.isB K (He.ga K "InvalidTags") (He.ga K "InvalidPrograms") false && (QX.isB K (He.ga K "InvalidTags") (He.ga K "InvalidStarts") false && (QX.isB K (He.ga K "InvalidTags") (He.ga K "UnlikeTags") false && (QX.isB K (He.ga K "InvalidTags") (He.ga K "TooMany") false && (QX.exmB K (He.ga K "InvalidSubject") (He.ga K "TagError") && (QX.isTB K (He.ga K "InvalidSubject") "ValueError" true && (QX.isB K (He.ga K "InvalidSubject") (He.ga K "TagError") true && (QX.isB K (He.ga K "InvalidSubject") (He.ga K "InvalidTags") false && (QX.isB K (He.ga K "InvalidSubject") (He.ga K "InvalidSubject") true && (QX.isB K (He.ga K "InvalidSubject") (He.ga K "InvalidEater") false && (QX.isB K (He.ga K "InvalidSubject") (He.ga K "InvalidNumber") false && (QX.isB K (He.ga K "InvalidSubject") (He.ga K "InvalidPrograms") false && (QX.isB K (He.ga K "InvalidSubject") (He.ga K "InvalidStarts") false && (QX.isB K (He.ga K "InvalidSubject") (He.ga K "UnlikeTags") false && (QX.isB K (He.ga K "InvalidSubject") (He.ga K "TooMany") false && (QX.exmB K (He.ga K "InvalidEater") (He.ga K "TagError") && (QX.isTB K (He.ga K "InvalidEater") "ValueError" true && (QX.isB K (He.ga K "InvalidEater") (He.ga K "TagError") true && (QX.isB K (He.ga K "InvalidEater") (He.ga K "InvalidTags") false && (QX.isB K (He.ga K "InvalidEater") (He.ga K "InvalidSubject") false && (QX.isB K (He.ga K "InvalidEater") (He.ga K "InvalidEater") true && (QX.isB K (He.ga K "InvalidEater") (He.ga K "InvalidNumber") false && (QX.isB K (He.ga K "InvalidEater") (He.ga K "InvalidPrograms") false && (QX.isB K (He.ga K "InvalidEater") (He.ga K "InvalidStarts") false && (QX.isB K (He.ga K "InvalidEater") (He.ga K "UnlikeTags") false && (QX.isB K (He.ga K "InvalidEater") (He.ga K "TooMany") false && (QX.exmB K (He.ga K "InvalidNumber") (He.ga K "TagError") && (QX.isTB K (He.ga K "InvalidNumber") "ValueError" true && (QX.isB K (He.ga K "InvalidNumber") (He.ga K "TagError") true && (QX.isB K (He.ga K "InvalidNumber") (He.ga K "InvalidTags") false && (QX.isB K (He.ga K "InvalidNumber") (He.ga K "InvalidSubject") false && (QX.isB K (He.ga K "InvalidNumber") (He.ga K "InvalidEater") false && (QX.isB K (He.ga K "InvalidNumber") (He.ga K "InvalidNumber") true && (QX.isB K (He.ga K "InvalidNumber") (He.ga K "InvalidPrograms") false && (QX.isB K (He.ga K "InvalidNumber") (He.ga K "InvalidStarts") false && (QX.isB K (He.ga K "InvalidNumber") (He.ga K "UnlikeTags") false && (QX.isB K (He.ga K "InvalidNumber") (He.ga K "TooMany") false && (QX.exmB K (He.ga K "InvalidPrograms") (He.ga K "TagError") && (QX.isTB K (He.ga K "InvalidPrograms") "ValueError" true && (QX.isB K (He.ga K "InvalidPrograms") (He.ga K "TagError") true && (QX.isB K (He.ga K "InvalidPrograms") (He.ga K "InvalidTags") false && (QX.isB K (He.ga K "InvalidPrograms") (He.ga K "InvalidSubject") false && (QX.isB K (He.ga K "InvalidPrograms") (He.ga K "InvalidEater") false && (QX.isB K (He.ga K "InvalidPrograms") (He.ga K "InvalidNumber") false && (QX.isB K (He.ga K "InvalidPrograms") (He.ga K "InvalidPrograms") true && (QX.isB K (He.ga K "InvalidPrograms") (He.ga K "InvalidStarts") false && (QX.isB K (He.ga K "InvalidPrograms") (He.ga K "UnlikeTags") false && (QX.isB K (He.ga K "InvalidPrograms") (He.ga K "TooMany") false && (QX.exmB K (He.ga K "InvalidStarts") (He.ga K "TagError") && (QX.isTB K (He.ga K "InvalidStarts") "ValueError" true && (QX.isB K (He.ga K "InvalidStarts") (He.ga K "TagError") true && (QX.isB K (He.ga K "InvalidStarts") (He.ga K "InvalidTags") false && (QX.isB K (He.ga K "InvalidStarts") (He.ga K "InvalidSubject") false && (QX.isB K (He.ga K "InvalidStarts") (He.ga K "InvalidEater") false && (QX.isB K (He.ga K "InvalidStarts") (He.ga K "InvalidNumber") false && (QX.isB K (He.ga K "InvalidStarts") (He.ga K "InvalidPrograms") false && (QX.isB K (He.ga K "InvalidStarts") (He.ga K "InvalidStarts") true && (QX.isB K (He.ga K "InvalidStarts") (He.ga K "UnlikeTags") false && (QX.isB K (He.ga K "InvalidStarts") (He.ga K "TooMany") false && (QM2.newXB K (He.ga K "UnlikeTags") && (QX.exmB K (He.ga K "UnlikeTags") (He.ga K "TagError") && (QX.isTB K (He.ga K "UnlikeTags") "ValueError" true && (QX.isB K (He.ga K "UnlikeTags") (He.ga K "TagError") true && (QX.isB K (He.ga K "UnlikeTags") (He.ga K "InvalidTags") false && (QX.isB K (He.ga K "UnlikeTags") (He.ga K "InvalidSubject") false && (QX.isB K (He.ga K "UnlikeTags") (He.ga K "InvalidEater") false && (QX.isB K (He.ga K "UnlikeTags") (He.ga K "InvalidNumber") false && (QX.isB K (He.ga K "UnlikeTags") (He.ga K "InvalidPrograms") false && (QX.isB K (He.ga K "UnlikeTags") (He.ga K "InvalidStarts") false && (QX.isB K (He.ga K "UnlikeTags") (He.ga K "UnlikeTags") true && (QX.isB K (He.ga K "UnlikeTags") (He.ga K "TooMany") false && (QX.exmB K (He.ga K "TooMany") (He.ga K "TagError") && (QX.isTB K (He.ga K "TooMany") "ValueError" true && (QX.isB K (He.ga K "TooMany") (He.ga K "TagError") true && (QX.isB K (He.ga K "TooMany") (He.ga K "InvalidTags") false && (QX.isB K (He.ga K "TooMany") (He.ga K "InvalidSubject") false && (QX.isB K (He.ga K "TooMany") (He.ga K "InvalidEater") false && (QX.isB K (He.ga K "TooMany") (He.ga K "InvalidNumber") false && (QX.isB K (He.ga K "TooMany") (He.ga K "InvalidPrograms") false && (QX.isB K (He.ga K "TooMany") (He.ga K "InvalidStarts") false && (QX.isB K (He.ga K "TooMany") (He.ga K "UnlikeTags") false && (QX.isB K (He.ga K "TooMany") (He.ga K "TooMany") true))))))))))))))))))))))))))))))))))))))))))))))))))))))))))))))))))))))))))))))))))))))))))))))))
theorem tx_mk {K : PySem.W.Frag} {h : Heap} {mg : Str → Option Value} (X0 : K.In h) (G : h.Ns mainGlobals mg) (c : He.SaysD fas dds K) (ce : exB K = true) : ∃ X : TX K mg, X.lam_c = He.codeOf K ("without_needless_ways", none) ∧ X.lam_P = He.tabOf K (He.codeOf K ("without_needless_ways", none)) ∧ X.d_law.a = He.ga K "law" := by
  obtain ⟨fd0, F0⟩ := c.def_ 0 (d := ⟨("_wall", none), "_wall", "_wall", defArgs s__wall, defBody s__wall, defScope s__wall, [], []⟩) rfl
  have F0 : L2.Fun K "_wall" "_wall" s__wall (He.fAd K ("_wall", none)) fd0 := QE.funD_fun F0
  obtain ⟨fd1, F1⟩ := c.def_ 1 (d := ⟨("is_number", none), "is_number", "is_number", defArgs s_is_number, defBody s_is_number, defScope s_is_number, [], []⟩) rfl
  have F1 : L2.Fun K "is_number" "is_number" s_is_number (He.fAd K ("is_number", none)) fd1 := QE.funD_fun F1
  obtain ⟨fd2, F2⟩ := c.def_ 2 (d := ⟨("is_list", none), "is_list", "is_list", defArgs s_is_list, defBody s_is_list, defScope s_is_list, [], []⟩) rfl
  have F2 : L2.Fun K "is_list" "is_list" s_is_list (He.fAd K ("is_list", none)) fd2 := QE.funD_fun F2
  obtain ⟨fd3, F3⟩ := c.def_ 3 (d := ⟨("is_name", none), "is_name", "is_name", defArgs s_is_name, defBody s_is_name, defScope s_is_name, [], []⟩) rfl
  have F3 : L2.Fun K "is_name" "is_name" s_is_name (He.fAd K ("is_name", none)) fd3 := QE.funD_fun F3
  obtain ⟨fd4, F4⟩ := c.def_ 4 (d := ⟨("is_tag", none), "is_tag", "is_tag", defArgs s_is_tag, defBody s_is_tag, defScope s_is_tag, [], []⟩) rfl
  have F4 : L2.Fun K "is_tag" "is_tag" s_is_tag (He.fAd K ("is_tag", none)) fd4 := QE.funD_fun F4
  obtain ⟨fd5, F5⟩ := c.def_ 5 (d := ⟨("is_subject", none), "is_subject", "is_subject", defArgs s_is_subject, defBody s_is_subject, defScope s_is_subject, [], []⟩) rfl
  have F5 : L2.Fun K "is_subject" "is_subject" s_is_subject (He.fAd K ("is_subject", none)) fd5 := QE.funD_fun F5
  obtain ⟨fd6, F6⟩ := c.def_ 6 (d := ⟨("is_standing", none), "is_standing", "is_standing", defArgs s_is_standing, defBody s_is_standing, defScope s_is_standing, [], []⟩) rfl
  have F6 : L2.Fun K "is_standing" "is_standing" s_is_standing (He.fAd K ("is_standing", none)) fd6 := QE.funD_fun F6
  obtain ⟨fd7, F7⟩ := c.def_ 7 (d := ⟨("check_tags", none), "check_tags", "check_tags", defArgs s_check_tags, defBody s_check_tags, defScope s_check_tags, [], []⟩) rfl
  have F7 : L2.Fun K "check_tags" "check_tags" s_check_tags (He.fAd K ("check_tags", none)) fd7 := QE.funD_fun F7
  obtain ⟨fd8, F8⟩ := c.def_ 8 (d := ⟨("check_word", none), "check_word", "check_word", defArgs s_check_word, defBody s_check_word, defScope s_check_word, [], []⟩) rfl
  have F8 : L2.Fun K "check_word" "check_word" s_check_word (He.fAd K ("check_word", none)) fd8 := QE.funD_fun F8
  obtain ⟨fd9, F9⟩ := c.def_ 9 (d := ⟨("check_standings", none), "check_standings", "check_standings", defArgs s_check_standings, defBody s_check_standings, defScope s_check_standings, [], []⟩) rfl
  have F9 : L2.Fun K "check_standings" "check_standings" s_check_standings (He.fAd K ("check_standings", none)) fd9 := QE.funD_fun F9
  obtain ⟨fd10, F10⟩ := c.def_ 10 (d := ⟨("check_number", none), "check_number", "check_number", defArgs s_check_number, defBody s_check_number, defScope s_check_number, [], []⟩) rfl
  have F10 : L2.Fun K "check_number" "check_number" s_check_number (He.fAd K ("check_number", none)) fd10 := QE.funD_fun F10
  obtain ⟨fd11, F11⟩ := c.def_ 11 (d := ⟨("walked", none), "walked", "walked", defArgs s_walked, defBody s_walked, defScope s_walked, [], []⟩) rfl
  have F11 : L2.Fun K "walked" "walked" s_walked (He.fAd K ("walked", none)) fd11 := QE.funD_fun F11
  obtain ⟨fd12, F12⟩ := c.def_ 12 (d := ⟨("made", none), "made", "made", defArgs s_made, defBody s_made, defScope s_made, [], []⟩) rfl
  have F12 : L2.Fun K "made" "made" s_made (He.fAd K ("made", none)) fd12 := QE.funD_fun F12
  obtain ⟨fd13, F13⟩ := c.def_ 13 (d := ⟨("is_settled_at", none), "is_settled_at", "is_settled_at", defArgs s_is_settled_at, defBody s_is_settled_at, defScope s_is_settled_at, [], []⟩) rfl
  have F13 : L2.Fun K "is_settled_at" "is_settled_at" s_is_settled_at (He.fAd K ("is_settled_at", none)) fd13 := QE.funD_fun F13
  obtain ⟨fd14, F14⟩ := c.def_ 14 (d := ⟨("is_made_at", none), "is_made_at", "is_made_at", defArgs s_is_made_at, defBody s_is_made_at, defScope s_is_made_at, [], []⟩) rfl
  have F14 : L2.Fun K "is_made_at" "is_made_at" s_is_made_at (He.fAd K ("is_made_at", none)) fd14 := QE.funD_fun F14
  obtain ⟨fd15, F15⟩ := c.def_ 15 (d := ⟨("copied", none), "copied", "copied", defArgs s_copied, defBody s_copied, defScope s_copied, [], []⟩) rfl
  have F15 : L2.Fun K "copied" "copied" s_copied (He.fAd K ("copied", none)) fd15 := QE.funD_fun F15
  obtain ⟨fd16, F16⟩ := c.def_ 16 (d := ⟨("without_needless_ways", none), "without_needless_ways", "without_needless_ways", defArgs s_without_needless_ways, defBody s_without_needless_ways, defScope s_without_needless_ways, [], []⟩) rfl
  have G16 : QB.FunC K "without_needless_ways" "without_needless_ways" s_without_needless_ways (He.fAd K ("without_needless_ways", none)) fd16 (He.codeOf K ("without_needless_ways", none)) := QE.funC_of F16
  have F16 : L2.Fun K "without_needless_ways" "without_needless_ways" s_without_needless_ways (He.fAd K ("without_needless_ways", none)) fd16 := QE.funD_fun F16
  obtain ⟨fd17, F17⟩ := c.def_ 17 (d := ⟨("numbered", none), "numbered", "numbered", defArgs s_numbered, defBody s_numbered, defScope s_numbered, [], []⟩) rfl
  have F17 : L2.Fun K "numbered" "numbered" s_numbered (He.fAd K ("numbered", none)) fd17 := QE.funD_fun F17
  obtain ⟨fd18, F18⟩ := c.def_ 18 (d := ⟨("parted", none), "parted", "parted", defArgs s_parted, defBody s_parted, defScope s_parted, [], []⟩) rfl
  have F18 : L2.Fun K "parted" "parted" s_parted (He.fAd K ("parted", none)) fd18 := QE.funD_fun F18
  obtain ⟨fd19, F19⟩ := c.def_ 19 (d := ⟨("alike_classes", none), "alike_classes", "alike_classes", defArgs s_alike_classes, defBody s_alike_classes, defScope s_alike_classes, [], []⟩) rfl
  have F19 : L2.Fun K "alike_classes" "alike_classes" s_alike_classes (He.fAd K ("alike_classes", none)) fd19 := QE.funD_fun F19
  obtain ⟨fd20, F20⟩ := c.def_ 20 (d := ⟨("in_order_met", none), "in_order_met", "in_order_met", defArgs s_in_order_met, defBody s_in_order_met, defScope s_in_order_met, [], []⟩) rfl
  have F20 : L2.Fun K "in_order_met" "in_order_met" s_in_order_met (He.fAd K ("in_order_met", none)) fd20 := QE.funD_fun F20
  obtain ⟨fd21, F21⟩ := c.def_ 21 (d := ⟨("least_form", none), "least_form", "least_form", defArgs s_least_form, defBody s_least_form, defScope s_least_form, [], []⟩) rfl
  have F21 : L2.Fun K "least_form" "least_form" s_least_form (He.fAd K ("least_form", none)) fd21 := QE.funD_fun F21
  obtain ⟨fd22, F22⟩ := c.def_ 22 (d := ⟨("check_same_tags", none), "check_same_tags", "check_same_tags", defArgs s_check_same_tags, defBody s_check_same_tags, defScope s_check_same_tags, [], []⟩) rfl
  have F22 : L2.Fun K "check_same_tags" "check_same_tags" s_check_same_tags (He.fAd K ("check_same_tags", none)) fd22 := QE.funD_fun F22
  obtain ⟨fd23, F23⟩ := c.def_ 23 (d := ⟨("check_programs", none), "check_programs", "check_programs", defArgs s_check_programs, defBody s_check_programs, defScope s_check_programs, [], []⟩) rfl
  have F23 : L2.Fun K "check_programs" "check_programs" s_check_programs (He.fAd K ("check_programs", none)) fd23 := QE.funD_fun F23
  obtain ⟨fd24, F24⟩ := c.def_ 24 (d := ⟨("_law_mixed", none), "_law_mixed", "_law_mixed", defArgs s__law_mixed, defBody s__law_mixed, defScope s__law_mixed, [], []⟩) rfl
  have F24 : L2.Fun K "_law_mixed" "_law_mixed" s__law_mixed (He.fAd K ("_law_mixed", none)) fd24 := QE.funD_fun F24
  obtain ⟨fd25, F25⟩ := c.def_ 25 (d := ⟨("_law_pile", none), "_law_pile", "_law_pile", defArgs s__law_pile, defBody s__law_pile, defScope s__law_pile, [], []⟩) rfl
  have F25 : L2.Fun K "_law_pile" "_law_pile" s__law_pile (He.fAd K ("_law_pile", none)) fd25 := QE.funD_fun F25
  obtain ⟨fd26, F26⟩ := c.def_ 26 (d := ⟨("_law_take", none), "_law_take", "_law_take", defArgs s__law_take, defBody s__law_take, defScope s__law_take, [], []⟩) rfl
  have F26 : L2.Fun K "_law_take" "_law_take" s__law_take (He.fAd K ("_law_take", none)) fd26 := QE.funD_fun F26
  obtain ⟨fd27, F27⟩ := c.def_ 27 (d := ⟨("_law_order", none), "_law_order", "_law_order", defArgs s__law_order, defBody s__law_order, defScope s__law_order, [], []⟩) rfl
  have F27 : L2.Fun K "_law_order" "_law_order" s__law_order (He.fAd K ("_law_order", none)) fd27 := QE.funD_fun F27
  obtain ⟨fd28, F28⟩ := c.def_ 28 (d := ⟨("_law_tags", none), "_law_tags", "_law_tags", defArgs s__law_tags, defBody s__law_tags, defScope s__law_tags, [], []⟩) rfl
  have F28 : L2.Fun K "_law_tags" "_law_tags" s__law_tags (He.fAd K ("_law_tags", none)) fd28 := QE.funD_fun F28
  obtain ⟨fd29, F29⟩ := c.def_ 29 (d := ⟨("_law_word", none), "_law_word", "_law_word", defArgs s__law_word, defBody s__law_word, defScope s__law_word, [], []⟩) rfl
  have F29 : L2.Fun K "_law_word" "_law_word" s__law_word (He.fAd K ("_law_word", none)) fd29 := QE.funD_fun F29
  obtain ⟨fd30, F30⟩ := c.def_ 30 (d := ⟨("_law_standings", none), "_law_standings", "_law_standings", defArgs s__law_standings, defBody s__law_standings, defScope s__law_standings, [], []⟩) rfl
  have F30 : L2.Fun K "_law_standings" "_law_standings" s__law_standings (He.fAd K ("_law_standings", none)) fd30 := QE.funD_fun F30
  obtain ⟨fd31, F31⟩ := c.def_ 31 (d := ⟨("_law_eaten", none), "_law_eaten", "_law_eaten", defArgs s__law_eaten, defBody s__law_eaten, defScope s__law_eaten, [], []⟩) rfl
  have F31 : L2.Fun K "_law_eaten" "_law_eaten" s__law_eaten (He.fAd K ("_law_eaten", none)) fd31 := QE.funD_fun F31
  obtain ⟨fd32, F32⟩ := c.def_ 32 (d := ⟨("_law_row_done", none), "_law_row_done", "_law_row_done", defArgs s__law_row_done, defBody s__law_row_done, defScope s__law_row_done, [], []⟩) rfl
  have F32 : L2.Fun K "_law_row_done" "_law_row_done" s__law_row_done (He.fAd K ("_law_row_done", none)) fd32 := QE.funD_fun F32
  obtain ⟨fd33, F33⟩ := c.def_ 33 (d := ⟨("_law_done", none), "_law_done", "_law_done", defArgs s__law_done, defBody s__law_done, defScope s__law_done, [], []⟩) rfl
  have F33 : L2.Fun K "_law_done" "_law_done" s__law_done (He.fAd K ("_law_done", none)) fd33 := QE.funD_fun F33
  obtain ⟨fd34, F34⟩ := c.def_ 34 (d := ⟨("_law_told", none), "_law_told", "_law_told", defArgs s__law_told, defBody s__law_told, defScope s__law_told, [], []⟩) rfl
  have F34 : L2.Fun K "_law_told" "_law_told" s__law_told (He.fAd K ("_law_told", none)) fd34 := QE.funD_fun F34
  obtain ⟨fd35, F35⟩ := c.def_ 35 (d := ⟨("_law_is_number", none), "_law_is_number", "_law_is_number", defArgs s__law_is_number, defBody s__law_is_number, defScope s__law_is_number, [], []⟩) rfl
  have F35 : L2.Fun K "_law_is_number" "_law_is_number" s__law_is_number (He.fAd K ("_law_is_number", none)) fd35 := QE.funD_fun F35
  obtain ⟨fd36, F36⟩ := c.def_ 36 (d := ⟨("_law_number_due", none), "_law_number_due", "_law_number_due", defArgs s__law_number_due, defBody s__law_number_due, defScope s__law_number_due, [], []⟩) rfl
  have F36 : L2.Fun K "_law_number_due" "_law_number_due" s__law_number_due (He.fAd K ("_law_number_due", none)) fd36 := QE.funD_fun F36
  obtain ⟨fd37, F37⟩ := c.def_ 37 (d := ⟨("_law_subject_due", none), "_law_subject_due", "_law_subject_due", defArgs s__law_subject_due, defBody s__law_subject_due, defScope s__law_subject_due, [], []⟩) rfl
  have F37 : L2.Fun K "_law_subject_due" "_law_subject_due" s__law_subject_due (He.fAd K ("_law_subject_due", none)) fd37 := QE.funD_fun F37
  obtain ⟨fd38, F38⟩ := c.def_ 38 (d := ⟨("_law_programs_due", none), "_law_programs_due", "_law_programs_due", defArgs s__law_programs_due, defBody s__law_programs_due, defScope s__law_programs_due, [], []⟩) rfl
  have F38 : L2.Fun K "_law_programs_due" "_law_programs_due" s__law_programs_due (He.fAd K ("_law_programs_due", none)) fd38 := QE.funD_fun F38
  obtain ⟨fd39, F39⟩ := c.def_ 39 (d := ⟨("_law_state", none), "_law_state", "_law_state", defArgs s__law_state, defBody s__law_state, defScope s__law_state, [], []⟩) rfl
  have F39 : L2.Fun K "_law_state" "_law_state" s__law_state (He.fAd K ("_law_state", none)) fd39 := QE.funD_fun F39
  obtain ⟨fd40, F40⟩ := c.def_ 40 (d := ⟨("_law_long_right", none), "_law_long_right", "_law_long_right", defArgs s__law_long_right, defBody s__law_long_right, defScope s__law_long_right, [], []⟩) rfl
  have F40 : L2.Fun K "_law_long_right" "_law_long_right" s__law_long_right (He.fAd K ("_law_long_right", none)) fd40 := QE.funD_fun F40
  obtain ⟨fd41, F41⟩ := c.def_ 41 (d := ⟨("law", none), "law", "law", defArgs s_law, defBody s_law, defScope s_law, [], []⟩) rfl
  have F41 : L2.Fun K "law" "law" s_law (He.fAd K ("law", none)) fd41 := QE.funD_fun F41
  obtain ⟨fd42, F42⟩ := c.def_ 42 (d := ⟨("InvalidTags", some "__init__"), "__init__", "InvalidTags.__init__", defArgs s_InvalidTags___init__, defBody s_InvalidTags___init__, defScope s_InvalidTags___init__, [], []⟩) rfl
  have F42 : L2.Fun K "__init__" "InvalidTags.__init__" s_InvalidTags___init__ (He.fAd K ("InvalidTags", some "__init__")) fd42 := QE.funD_fun F42
  obtain ⟨fd43, F43⟩ := c.def_ 43 (d := ⟨("InvalidSubject", some "__init__"), "__init__", "InvalidSubject.__init__", defArgs s_InvalidSubject___init__, defBody s_InvalidSubject___init__, defScope s_InvalidSubject___init__, [], []⟩) rfl
  have F43 : L2.Fun K "__init__" "InvalidSubject.__init__" s_InvalidSubject___init__ (He.fAd K ("InvalidSubject", some "__init__")) fd43 := QE.funD_fun F43
  obtain ⟨fd44, F44⟩ := c.def_ 44 (d := ⟨("InvalidEater", some "__init__"), "__init__", "InvalidEater.__init__", defArgs s_InvalidEater___init__, defBody s_InvalidEater___init__, defScope s_InvalidEater___init__, [], []⟩) rfl
  have F44 : L2.Fun K "__init__" "InvalidEater.__init__" s_InvalidEater___init__ (He.fAd K ("InvalidEater", some "__init__")) fd44 := QE.funD_fun F44
  obtain ⟨fd45, F45⟩ := c.def_ 45 (d := ⟨("InvalidNumber", some "__init__"), "__init__", "InvalidNumber.__init__", defArgs s_InvalidNumber___init__, defBody s_InvalidNumber___init__, defScope s_InvalidNumber___init__, [], []⟩) rfl
  have F45 : L2.Fun K "__init__" "InvalidNumber.__init__" s_InvalidNumber___init__ (He.fAd K ("InvalidNumber", some "__init__")) fd45 := QE.funD_fun F45
  obtain ⟨fd46, F46⟩ := c.def_ 46 (d := ⟨("InvalidPrograms", some "__init__"), "__init__", "InvalidPrograms.__init__", defArgs s_InvalidPrograms___init__, defBody s_InvalidPrograms___init__, defScope s_InvalidPrograms___init__, [], []⟩) rfl
  have F46 : L2.Fun K "__init__" "InvalidPrograms.__init__" s_InvalidPrograms___init__ (He.fAd K ("InvalidPrograms", some "__init__")) fd46 := QE.funD_fun F46
  obtain ⟨fd47, F47⟩ := c.def_ 47 (d := ⟨("InvalidStarts", some "__init__"), "__init__", "InvalidStarts.__init__", defArgs s_InvalidStarts___init__, defBody s_InvalidStarts___init__, defScope s_InvalidStarts___init__, [], []⟩) rfl
  have F47 : L2.Fun K "__init__" "InvalidStarts.__init__" s_InvalidStarts___init__ (He.fAd K ("InvalidStarts", some "__init__")) fd47 := QE.funD_fun F47
  obtain ⟨fd48, F48⟩ := c.def_ 48 (d := ⟨("TooMany", some "__init__"), "__init__", "TooMany.__init__", defArgs s_TooMany___init__, defBody s_TooMany___init__, defScope s_TooMany___init__, [], []⟩) rfl
  have F48 : L2.Fun K "__init__" "TooMany.__init__" s_TooMany___init__ (He.fAd K ("TooMany", some "__init__")) fd48 := QE.funD_fun F48
  obtain ⟨fd49, F49⟩ := c.def_ 49 (d := ⟨("Eater", some "__init__"), "__init__", "Eater.__init__", defArgs s_Eater___init__, defBody s_Eater___init__, defScope s_Eater___init__, [], []⟩) rfl
  have F49 : L2.Fun K "__init__" "Eater.__init__" s_Eater___init__ (He.fAd K ("Eater", some "__init__")) fd49 := QE.funD_fun F49
  obtain ⟨fd50, F50⟩ := c.def_ 50 (d := ⟨("Eater", some "__len__"), "__len__", "Eater.__len__", defArgs s_Eater___len__, defBody s_Eater___len__, defScope s_Eater___len__, [], []⟩) rfl
  have F50 : L2.Fun K "__len__" "Eater.__len__" s_Eater___len__ (He.fAd K ("Eater", some "__len__")) fd50 := QE.funD_fun F50
  obtain ⟨fd51, F51⟩ := c.def_ 51 (d := ⟨("Eater", some "__eq__"), "__eq__", "Eater.__eq__", defArgs s_Eater___eq__, defBody s_Eater___eq__, defScope s_Eater___eq__, [], []⟩) rfl
  have F51 : L2.Fun K "__eq__" "Eater.__eq__" s_Eater___eq__ (He.fAd K ("Eater", some "__eq__")) fd51 := QE.funD_fun F51
  obtain ⟨fd52, F52⟩ := c.def_ 52 (d := ⟨("Eater", some "__contains__"), "__contains__", "Eater.__contains__", defArgs s_Eater___contains__, defBody s_Eater___contains__, defScope s_Eater___contains__, [], []⟩) rfl
  have F52 : L2.Fun K "__contains__" "Eater.__contains__" s_Eater___contains__ (He.fAd K ("Eater", some "__contains__")) fd52 := QE.funD_fun F52
  obtain ⟨fd53, F53⟩ := c.def_ 53 (d := ⟨("Eater", some "tags"), "tags", "Eater.tags", defArgs s_Eater_tags, defBody s_Eater_tags, defScope s_Eater_tags, [], []⟩) rfl
  have F53 : L2.Fun K "tags" "Eater.tags" s_Eater_tags (He.fAd K ("Eater", some "tags")) fd53 := QE.funD_fun F53
  obtain ⟨fd54, F54⟩ := c.def_ 54 (d := ⟨("Eater", some "standings"), "standings", "Eater.standings", defArgs s_Eater_standings, defBody s_Eater_standings, defScope s_Eater_standings, [], []⟩) rfl
  have F54 : L2.Fun K "standings" "Eater.standings" s_Eater_standings (He.fAd K ("Eater", some "standings")) fd54 := QE.funD_fun F54
  obtain ⟨fd55, F55⟩ := c.def_ 55 (d := ⟨("Eater", some "on"), "on", "Eater.on", defArgs s_Eater_on, defBody s_Eater_on, defScope s_Eater_on, [], []⟩) rfl
  have F55 : L2.Fun K "on" "Eater.on" s_Eater_on (He.fAd K ("Eater", some "on")) fd55 := QE.funD_fun F55
  obtain ⟨fd56, F56⟩ := c.def_ 56 (d := ⟨("Eater", some "settled"), "settled", "Eater.settled", defArgs s_Eater_settled, defBody s_Eater_settled, defScope s_Eater_settled, [], []⟩) rfl
  have F56 : L2.Fun K "settled" "Eater.settled" s_Eater_settled (He.fAd K ("Eater", some "settled")) fd56 := QE.funD_fun F56
  obtain ⟨fd57, F57⟩ := c.def_ 57 (d := ⟨("Eater", some "then"), "then", "Eater.then", defArgs s_Eater_then, defBody s_Eater_then, defScope s_Eater_then, [], []⟩) rfl
  have F57 : L2.Fun K "then" "Eater.then" s_Eater_then (He.fAd K ("Eater", some "then")) fd57 := QE.funD_fun F57
  obtain ⟨fd58, F58⟩ := c.def_ 58 (d := ⟨("Eater", some "power"), "power", "Eater.power", defArgs s_Eater_power, defBody s_Eater_power, defScope s_Eater_power, [], []⟩) rfl
  have F58 : L2.Fun K "power" "Eater.power" s_Eater_power (He.fAd K ("Eater", some "power")) fd58 := QE.funD_fun F58
  obtain ⟨fd59, F59⟩ := c.def_ 59 (d := ⟨("Mailbox", some "__init__"), "__init__", "Mailbox.__init__", defArgs s_Mailbox___init__, defBody s_Mailbox___init__, defScope s_Mailbox___init__, [], []⟩) rfl
  have F59 : L2.Fun K "__init__" "Mailbox.__init__" s_Mailbox___init__ (He.fAd K ("Mailbox", some "__init__")) fd59 := QE.funD_fun F59
  obtain ⟨fd60, F60⟩ := c.def_ 60 (d := ⟨("Mailbox", some "__len__"), "__len__", "Mailbox.__len__", defArgs s_Mailbox___len__, defBody s_Mailbox___len__, defScope s_Mailbox___len__, [], []⟩) rfl
  have F60 : L2.Fun K "__len__" "Mailbox.__len__" s_Mailbox___len__ (He.fAd K ("Mailbox", some "__len__")) fd60 := QE.funD_fun F60
  obtain ⟨fd61, F61⟩ := c.def_ 61 (d := ⟨("Mailbox", some "__getitem__"), "__getitem__", "Mailbox.__getitem__", defArgs s_Mailbox___getitem__, defBody s_Mailbox___getitem__, defScope s_Mailbox___getitem__, [], []⟩) rfl
  have F61 : L2.Fun K "__getitem__" "Mailbox.__getitem__" s_Mailbox___getitem__ (He.fAd K ("Mailbox", some "__getitem__")) fd61 := QE.funD_fun F61
  obtain ⟨fd62, F62⟩ := c.def_ 62 (d := ⟨("Mailbox", some "__iter__"), "__iter__", "Mailbox.__iter__", defArgs s_Mailbox___iter__, defBody s_Mailbox___iter__, defScope s_Mailbox___iter__, [], []⟩) rfl
  have F62 : L2.Fun K "__iter__" "Mailbox.__iter__" s_Mailbox___iter__ (He.fAd K ("Mailbox", some "__iter__")) fd62 := QE.funD_fun F62
  obtain ⟨fd63, F63⟩ := c.def_ 63 (d := ⟨("Mailbox", some "begin"), "begin", "Mailbox.begin", defArgs s_Mailbox_begin, defBody s_Mailbox_begin, defScope s_Mailbox_begin, [], []⟩) rfl
  have F63 : L2.Fun K "begin" "Mailbox.begin" s_Mailbox_begin (He.fAd K ("Mailbox", some "begin")) fd63 := QE.funD_fun F63
  obtain ⟨fd64, F64⟩ := c.def_ 64 (d := ⟨("Mailbox", some "answer"), "answer", "Mailbox.answer", defArgs s_Mailbox_answer, defBody s_Mailbox_answer, defScope s_Mailbox_answer, [], []⟩) rfl
  have F64 : L2.Fun K "answer" "Mailbox.answer" s_Mailbox_answer (He.fAd K ("Mailbox", some "answer")) fd64 := QE.funD_fun F64
  obtain ⟨fd65, F65⟩ := c.def_ 65 (d := ⟨("Mailbox", some "key_of"), "key_of", "Mailbox.key_of", defArgs s_Mailbox_key_of, defBody s_Mailbox_key_of, defScope s_Mailbox_key_of, [], []⟩) rfl
  have F65 : L2.Fun K "key_of" "Mailbox.key_of" s_Mailbox_key_of (He.fAd K ("Mailbox", some "key_of")) fd65 := QE.funD_fun F65
  obtain ⟨fd66, F66⟩ := c.def_ 66 (d := ⟨("Mailbox", some "talk"), "talk", "Mailbox.talk", defArgs s_Mailbox_talk, defBody s_Mailbox_talk, defScope s_Mailbox_talk, [], []⟩) rfl
  have F66 : L2.Fun K "talk" "Mailbox.talk" s_Mailbox_talk (He.fAd K ("Mailbox", some "talk")) fd66 := QE.funD_fun F66
  obtain ⟨fd67, F67⟩ := c.def_ 67 (d := ⟨("Mailbox", some "talks"), "talks", "Mailbox.talks", defArgs s_Mailbox_talks, defBody s_Mailbox_talks, defScope s_Mailbox_talks, [], []⟩) rfl
  have F67 : L2.Fun K "talks" "Mailbox.talks" s_Mailbox_talks (He.fAd K ("Mailbox", some "talks")) fd67 := QE.funD_fun F67
  obtain ⟨fd68, F68⟩ := c.def_ 68 (d := ⟨("Mailbox", some "tried"), "tried", "Mailbox.tried", defArgs s_Mailbox_tried, defBody s_Mailbox_tried, defScope s_Mailbox_tried, [], []⟩) rfl
  have F68 : L2.Fun K "tried" "Mailbox.tried" s_Mailbox_tried (He.fAd K ("Mailbox", some "tried")) fd68 := QE.funD_fun F68
  obtain ⟨fd69, F69⟩ := c.def_ 69 (d := ⟨("Mailbox", some "undo"), "undo", "Mailbox.undo", defArgs s_Mailbox_undo, defBody s_Mailbox_undo, defScope s_Mailbox_undo, [], []⟩) rfl
  have F69 : L2.Fun K "undo" "Mailbox.undo" s_Mailbox_undo (He.fAd K ("Mailbox", some "undo")) fd69 := QE.funD_fun F69
  obtain ⟨fd70, F70⟩ := c.def_ 70 (d := ⟨("Mailbox", some "trial"), "trial", "Mailbox.trial", defArgs s_Mailbox_trial, defBody s_Mailbox_trial, defScope s_Mailbox_trial, [], []⟩) rfl
  have F70 : L2.Fun K "trial" "Mailbox.trial" s_Mailbox_trial (He.fAd K ("Mailbox", some "trial")) fd70 := QE.funD_fun F70
  obtain ⟨fd71, F71⟩ := c.def_ 71 (d := ⟨("Mailbox", some "_come"), "_come", "Mailbox._come", defArgs s_Mailbox__come, defBody s_Mailbox__come, defScope s_Mailbox__come, [], []⟩) rfl
  have F71 : L2.Fun K "_come" "Mailbox._come" s_Mailbox__come (He.fAd K ("Mailbox", some "_come")) fd71 := QE.funD_fun F71
  obtain ⟨fd72, F72⟩ := c.def_ 72 (d := ⟨("Mailbox", some "_answered"), "_answered", "Mailbox._answered", defArgs s_Mailbox__answered, defBody s_Mailbox__answered, defScope s_Mailbox__answered, [], []⟩) rfl
  have F72 : L2.Fun K "_answered" "Mailbox._answered" s_Mailbox__answered (He.fAd K ("Mailbox", some "_answered")) fd72 := QE.funD_fun F72
  obtain ⟨fd73, F73⟩ := c.def_ 73 (d := ⟨("Mailbox", some "_with_key"), "_with_key", "Mailbox._with_key", defArgs s_Mailbox__with_key, defBody s_Mailbox__with_key, defScope s_Mailbox__with_key, [], []⟩) rfl
  have F73 : L2.Fun K "_with_key" "Mailbox._with_key" s_Mailbox__with_key (He.fAd K ("Mailbox", some "_with_key")) fd73 := QE.funD_fun F73
  obtain ⟨b_own_Eater, ce⟩ := He.ba ce
  obtain ⟨b_x_InvalidTags, ce⟩ := He.ba ce
  obtain ⟨b_x_InvalidSubject, ce⟩ := He.ba ce
  obtain ⟨b_x_InvalidEater, ce⟩ := He.ba ce
  obtain ⟨b_x_InvalidNumber, ce⟩ := He.ba ce
  obtain ⟨b_x_InvalidPrograms, ce⟩ := He.ba ce
  obtain ⟨b_x_InvalidStarts, ce⟩ := He.ba ce
  obtain ⟨b_x_TooMany, ce⟩ := He.ba ce
  obtain ⟨b_e_InvalidTags, ce⟩ := He.ba ce
  obtain ⟨b_v_InvalidTags, ce⟩ := He.ba ce
  obtain ⟨b_i_InvalidTags_TagError, ce⟩ := He.ba ce
  obtain ⟨b_i_InvalidTags_InvalidTags, ce⟩ := He.ba ce
  obtain ⟨b_i_InvalidTags_InvalidSubject, ce⟩ := He.ba ce
  obtain ⟨b_i_InvalidTags_InvalidEater, ce⟩ := He.ba ce
  obtain ⟨b_i_InvalidTags_InvalidNumber, ce⟩ := He.ba ce
  obtain ⟨b_i_InvalidTags_InvalidPrograms, ce⟩ := He.ba ce
  obtain ⟨b_i_InvalidTags_InvalidStarts, ce⟩ := He.ba ce
  obtain ⟨b_i_InvalidTags_UnlikeTags, ce⟩ := He.ba ce
  obtain ⟨b_i_InvalidTags_TooMany, ce⟩ := He.ba ce
  obtain ⟨b_e_InvalidSubject, ce⟩ := He.ba ce
  obtain ⟨b_v_InvalidSubject, ce⟩ := He.ba ce
  obtain ⟨b_i_InvalidSubject_TagError, ce⟩ := He.ba ce
  obtain ⟨b_i_InvalidSubject_InvalidTags, ce⟩ := He.ba ce
  obtain ⟨b_i_InvalidSubject_InvalidSubject, ce⟩ := He.ba ce
  obtain ⟨b_i_InvalidSubject_InvalidEater, ce⟩ := He.ba ce
  obtain ⟨b_i_InvalidSubject_InvalidNumber, ce⟩ := He.ba ce
  obtain ⟨b_i_InvalidSubject_InvalidPrograms, ce⟩ := He.ba ce
  obtain ⟨b_i_InvalidSubject_InvalidStarts, ce⟩ := He.ba ce
  obtain ⟨b_i_InvalidSubject_UnlikeTags, ce⟩ := He.ba ce
  obtain ⟨b_i_InvalidSubject_TooMany, ce⟩ := He.ba ce
  obtain ⟨b_e_InvalidEater, ce⟩ := He.ba ce
  obtain ⟨b_v_InvalidEater, ce⟩ := He.ba ce
  obtain ⟨b_i_InvalidEater_TagError, ce⟩ := He.ba ce
  obtain ⟨b_i_InvalidEater_InvalidTags, ce⟩ := He.ba ce
  obtain ⟨b_i_InvalidEater_InvalidSubject, ce⟩ := He.ba ce
  obtain ⟨b_i_InvalidEater_InvalidEater, ce⟩ := He.ba ce
  obtain ⟨b_i_InvalidEater_InvalidNumber, ce⟩ := He.ba ce
  obtain ⟨b_i_InvalidEater_InvalidPrograms, ce⟩ := He.ba ce
  obtain ⟨b_i_InvalidEater_InvalidStarts, ce⟩ := He.ba ce
  obtain ⟨b_i_InvalidEater_UnlikeTags, ce⟩ := He.ba ce
  obtain ⟨b_i_InvalidEater_TooMany, ce⟩ := He.ba ce
  obtain ⟨b_e_InvalidNumber, ce⟩ := He.ba ce
  obtain ⟨b_v_InvalidNumber, ce⟩ := He.ba ce
  obtain ⟨b_i_InvalidNumber_TagError, ce⟩ := He.ba ce
  obtain ⟨b_i_InvalidNumber_InvalidTags, ce⟩ := He.ba ce
  obtain ⟨b_i_InvalidNumber_InvalidSubject, ce⟩ := He.ba ce
  obtain ⟨b_i_InvalidNumber_InvalidEater, ce⟩ := He.ba ce
  obtain ⟨b_i_InvalidNumber_InvalidNumber, ce⟩ := He.ba ce
  obtain ⟨b_i_InvalidNumber_InvalidPrograms, ce⟩ := He.ba ce
  obtain ⟨b_i_InvalidNumber_InvalidStarts, ce⟩ := He.ba ce
  obtain ⟨b_i_InvalidNumber_UnlikeTags, ce⟩ := He.ba ce
  obtain ⟨b_i_InvalidNumber_TooMany, ce⟩ := He.ba ce
  obtain ⟨b_e_InvalidPrograms, ce⟩ := He.ba ce
  obtain ⟨b_v_InvalidPrograms, ce⟩ := He.ba ce
  obtain ⟨b_i_InvalidPrograms_TagError, ce⟩ := He.ba ce
  obtain ⟨b_i_InvalidPrograms_InvalidTags, ce⟩ := He.ba ce
  obtain ⟨b_i_InvalidPrograms_InvalidSubject, ce⟩ := He.ba ce
  obtain ⟨b_i_InvalidPrograms_InvalidEater, ce⟩ := He.ba ce
  obtain ⟨b_i_InvalidPrograms_InvalidNumber, ce⟩ := He.ba ce
  obtain ⟨b_i_InvalidPrograms_InvalidPrograms, ce⟩ := He.ba ce
  obtain ⟨b_i_InvalidPrograms_InvalidStarts, ce⟩ := He.ba ce
  obtain ⟨b_i_InvalidPrograms_UnlikeTags, ce⟩ := He.ba ce
  obtain ⟨b_i_InvalidPrograms_TooMany, ce⟩ := He.ba ce
  obtain ⟨b_e_InvalidStarts, ce⟩ := He.ba ce
  obtain ⟨b_v_InvalidStarts, ce⟩ := He.ba ce
  obtain ⟨b_i_InvalidStarts_TagError, ce⟩ := He.ba ce
  obtain ⟨b_i_InvalidStarts_InvalidTags, ce⟩ := He.ba ce
  obtain ⟨b_i_InvalidStarts_InvalidSubject, ce⟩ := He.ba ce
  obtain ⟨b_i_InvalidStarts_InvalidEater, ce⟩ := He.ba ce
  obtain ⟨b_i_InvalidStarts_InvalidNumber, ce⟩ := He.ba ce
  obtain ⟨b_i_InvalidStarts_InvalidPrograms, ce⟩ := He.ba ce
  obtain ⟨b_i_InvalidStarts_InvalidStarts, ce⟩ := He.ba ce
  obtain ⟨b_i_InvalidStarts_UnlikeTags, ce⟩ := He.ba ce
  obtain ⟨b_i_InvalidStarts_TooMany, ce⟩ := He.ba ce
  obtain ⟨b_n_UnlikeTags, ce⟩ := He.ba ce
  obtain ⟨b_e_UnlikeTags, ce⟩ := He.ba ce
  obtain ⟨b_v_UnlikeTags, ce⟩ := He.ba ce
  obtain ⟨b_i_UnlikeTags_TagError, ce⟩ := He.ba ce
  obtain ⟨b_i_UnlikeTags_InvalidTags, ce⟩ := He.ba ce
  obtain ⟨b_i_UnlikeTags_InvalidSubject, ce⟩ := He.ba ce
  obtain ⟨b_i_UnlikeTags_InvalidEater, ce⟩ := He.ba ce
  obtain ⟨b_i_UnlikeTags_InvalidNumber, ce⟩ := He.ba ce
  obtain ⟨b_i_UnlikeTags_InvalidPrograms, ce⟩ := He.ba ce
  obtain ⟨b_i_UnlikeTags_InvalidStarts, ce⟩ := He.ba ce
  obtain ⟨b_i_UnlikeTags_UnlikeTags, ce⟩ := He.ba ce
  obtain ⟨b_i_UnlikeTags_TooMany, ce⟩ := He.ba ce
  obtain ⟨b_e_TooMany, ce⟩ := He.ba ce
  obtain ⟨b_v_TooMany, ce⟩ := He.ba ce
  obtain ⟨b_i_TooMany_TagError, ce⟩ := He.ba ce
  obtain ⟨b_i_TooMany_InvalidTags, ce⟩ := He.ba ce
  obtain ⟨b_i_TooMany_InvalidSubject, ce⟩ := He.ba ce
  obtain ⟨b_i_TooMany_InvalidEater, ce⟩ := He.ba ce
  obtain ⟨b_i_TooMany_InvalidNumber, ce⟩ := He.ba ce
  obtain ⟨b_i_TooMany_InvalidPrograms, ce⟩ := He.ba ce
  obtain ⟨b_i_TooMany_InvalidStarts, ce⟩ := He.ba ce
  obtain ⟨b_i_TooMany_UnlikeTags, ce⟩ := He.ba ce
  have b_i_TooMany_TooMany := ce
  exact ⟨{
    n_TypeError := He.free_ok X0 G (c.fact 0 (f := .free "TypeError") rfl),
    n_ValueError := He.free_ok X0 G (c.fact 1 (f := .free "ValueError") rfl),
    n_abs := He.free_ok X0 G (c.fact 2 (f := .free "abs") rfl),
    n_all := He.free_ok X0 G (c.fact 3 (f := .free "all") rfl),
    n_any := He.free_ok X0 G (c.fact 4 (f := .free "any") rfl),
    n_bool := He.free_ok X0 G (c.fact 5 (f := .free "bool") rfl),
    n_enumerate := He.free_ok X0 G (c.fact 6 (f := .free "enumerate") rfl),
    n_int := He.free_ok X0 G (c.fact 7 (f := .free "int") rfl),
    n_isinstance := He.free_ok X0 G (c.fact 8 (f := .free "isinstance") rfl),
    n_len := He.free_ok X0 G (c.fact 9 (f := .free "len") rfl),
    n_list := He.free_ok X0 G (c.fact 10 (f := .free "list") rfl),
    n_max := He.free_ok X0 G (c.fact 11 (f := .free "max") rfl),
    n_range := He.free_ok X0 G (c.fact 12 (f := .free "range") rfl),
    n_sorted := He.free_ok X0 G (c.fact 13 (f := .free "sorted") rfl),
    n_str := He.free_ok X0 G (c.fact 14 (f := .free "str") rfl),
    n_tuple := He.free_ok X0 G (c.fact 15 (f := .free "tuple") rfl),
    n_zip := He.free_ok X0 G (c.fact 16 (f := .free "zip") rfl),
    c_LETTERS := (let ⟨t, h⟩ := He.str_ok X0 G (c.fact 17 (f := .str "LETTERS" "abcdefghijklmnopqrstuvwxyz") rfl); ⟨_, h, t, rfl⟩),
    c_MOST_LETTERS := (let ⟨t, h⟩ := He.int_ok X0 G (c.fact 18 (f := .int "MOST_LETTERS" 8) rfl); ⟨_, h, t, rfl⟩),
    c_MOST_TAGS := (let ⟨t, h⟩ := He.int_ok X0 G (c.fact 19 (f := .int "MOST_TAGS" 6) rfl); ⟨_, h, t, rfl⟩),
    c_MOST_STANDINGS := (let ⟨t, h⟩ := He.int_ok X0 G (c.fact 20 (f := .int "MOST_STANDINGS" 30) rfl); ⟨_, h, t, rfl⟩),
    c_LONGEST_WORD := (let ⟨t, h⟩ := He.int_ok X0 G (c.fact 21 (f := .int "LONGEST_WORD" 8) rfl); ⟨_, h, t, rfl⟩),
    c_LONGEST_SUBJECT := (let ⟨t, h⟩ := He.int_ok X0 G (c.fact 22 (f := .int "LONGEST_SUBJECT" 200) rfl); ⟨_, h, t, rfl⟩),
    c_MOST_PROGRAMS := (let ⟨t, h⟩ := He.int_ok X0 G (c.fact 23 (f := .int "MOST_PROGRAMS" 6) rfl); ⟨_, h, t, rfl⟩),
    d__wall := { a := He.fAd K ("_wall", none), fd := fd0, F := F0, b := F0.binds fun _ _ _ _ _ _ us hl => match us, hl with | [_], _ => rfl, mg := He.glo_ok X0 G (c.fact 24 (f := .glo "_wall") rfl) },
    d_is_number := { a := He.fAd K ("is_number", none), fd := fd1, F := F1, b := F1.binds fun _ _ _ _ _ _ us hl => match us, hl with | [_, _, _], _ => rfl, mg := He.glo_ok X0 G (c.fact 25 (f := .glo "is_number") rfl) },
    d_is_list := { a := He.fAd K ("is_list", none), fd := fd2, F := F2, b := F2.binds fun _ _ _ _ _ _ us hl => match us, hl with | [_, _, _], _ => rfl, mg := He.glo_ok X0 G (c.fact 26 (f := .glo "is_list") rfl) },
    d_is_name := { a := He.fAd K ("is_name", none), fd := fd3, F := F3, b := F3.binds fun _ _ _ _ _ _ us hl => match us, hl with | [_], _ => rfl, mg := He.glo_ok X0 G (c.fact 27 (f := .glo "is_name") rfl) },
    d_is_tag := { a := He.fAd K ("is_tag", none), fd := fd4, F := F4, b := F4.binds fun _ _ _ _ _ _ us hl => match us, hl with | [_, _], _ => rfl, mg := He.glo_ok X0 G (c.fact 28 (f := .glo "is_tag") rfl) },
    d_is_subject := { a := He.fAd K ("is_subject", none), fd := fd5, F := F5, b := F5.binds fun _ _ _ _ _ _ us hl => match us, hl with | [_, _], _ => rfl, mg := He.glo_ok X0 G (c.fact 29 (f := .glo "is_subject") rfl) },
    d_is_standing := { a := He.fAd K ("is_standing", none), fd := fd6, F := F6, b := F6.binds fun _ _ _ _ _ _ us hl => match us, hl with | [_, _, _], _ => rfl, mg := He.glo_ok X0 G (c.fact 30 (f := .glo "is_standing") rfl) },
    d_check_tags := { a := He.fAd K ("check_tags", none), fd := fd7, F := F7, b := F7.binds fun _ _ _ _ _ _ us hl => match us, hl with | [_], _ => rfl, mg := He.glo_ok X0 G (c.fact 31 (f := .glo "check_tags") rfl) },
    d_check_word := { a := He.fAd K ("check_word", none), fd := fd8, F := F8, b := F8.binds fun _ _ _ _ _ _ us hl => match us, hl with | [_, _, _], _ => rfl, mg := He.glo_ok X0 G (c.fact 32 (f := .glo "check_word") rfl) },
    d_check_standings := { a := He.fAd K ("check_standings", none), fd := fd9, F := F9, b := F9.binds fun _ _ _ _ _ _ us hl => match us, hl with | [_, _], _ => rfl, mg := He.glo_ok X0 G (c.fact 33 (f := .glo "check_standings") rfl) },
    d_check_number := { a := He.fAd K ("check_number", none), fd := fd10, F := F10, b := F10.binds fun _ _ _ _ _ _ us hl => match us, hl with | [_, _], _ => rfl, mg := He.glo_ok X0 G (c.fact 34 (f := .glo "check_number") rfl) },
    d_walked := { a := He.fAd K ("walked", none), fd := fd11, F := F11, b := F11.binds fun _ _ _ _ _ _ us hl => match us, hl with | [_, _, _], _ => rfl, mg := He.glo_ok X0 G (c.fact 35 (f := .glo "walked") rfl) },
    d_made := { a := He.fAd K ("made", none), fd := fd12, F := F12, b := F12.binds fun _ _ _ _ _ _ us hl => match us, hl with | [_, _, _], _ => rfl, mg := He.glo_ok X0 G (c.fact 36 (f := .glo "made") rfl) },
    d_is_settled_at := { a := He.fAd K ("is_settled_at", none), fd := fd13, F := F13, b := F13.binds fun _ _ _ _ _ _ us hl => match us, hl with | [_], _ => rfl, mg := He.glo_ok X0 G (c.fact 37 (f := .glo "is_settled_at") rfl) },
    d_is_made_at := { a := He.fAd K ("is_made_at", none), fd := fd14, F := F14, b := F14.binds fun _ _ _ _ _ _ us hl => match us, hl with | [_, _, _], _ => rfl, mg := He.glo_ok X0 G (c.fact 38 (f := .glo "is_made_at") rfl) },
    d_copied := { a := He.fAd K ("copied", none), fd := fd15, F := F15, b := F15.binds fun _ _ _ _ _ _ us hl => match us, hl with | [_], _ => rfl, mg := He.glo_ok X0 G (c.fact 39 (f := .glo "copied") rfl) },
    d_without_needless_ways := { a := He.fAd K ("without_needless_ways", none), fd := fd16, F := F16, b := F16.binds fun _ _ _ _ _ _ us hl => match us, hl with | [_, _], _ => rfl, mg := He.glo_ok X0 G (c.fact 40 (f := .glo "without_needless_ways") rfl) },
    d_numbered := { a := He.fAd K ("numbered", none), fd := fd17, F := F17, b := F17.binds fun _ _ _ _ _ _ us hl => match us, hl with | [_], _ => rfl, mg := He.glo_ok X0 G (c.fact 41 (f := .glo "numbered") rfl) },
    d_parted := { a := He.fAd K ("parted", none), fd := fd18, F := F18, b := F18.binds fun _ _ _ _ _ _ us hl => match us, hl with | [_, _], _ => rfl, mg := He.glo_ok X0 G (c.fact 42 (f := .glo "parted") rfl) },
    d_alike_classes := { a := He.fAd K ("alike_classes", none), fd := fd19, F := F19, b := F19.binds fun _ _ _ _ _ _ us hl => match us, hl with | [_], _ => rfl, mg := He.glo_ok X0 G (c.fact 43 (f := .glo "alike_classes") rfl) },
    d_in_order_met := { a := He.fAd K ("in_order_met", none), fd := fd20, F := F20, b := F20.binds fun _ _ _ _ _ _ us hl => match us, hl with | [_, _], _ => rfl, mg := He.glo_ok X0 G (c.fact 44 (f := .glo "in_order_met") rfl) },
    d_least_form := { a := He.fAd K ("least_form", none), fd := fd21, F := F21, b := F21.binds fun _ _ _ _ _ _ us hl => match us, hl with | [_, _], _ => rfl, mg := He.glo_ok X0 G (c.fact 45 (f := .glo "least_form") rfl) },
    d_check_same_tags := { a := He.fAd K ("check_same_tags", none), fd := fd22, F := F22, b := F22.binds fun _ _ _ _ _ _ us hl => match us, hl with | [_, _], _ => rfl, mg := He.glo_ok X0 G (c.fact 46 (f := .glo "check_same_tags") rfl) },
    d_check_programs := { a := He.fAd K ("check_programs", none), fd := fd23, F := F23, b := F23.binds fun _ _ _ _ _ _ us hl => match us, hl with | [_], _ => rfl, mg := He.glo_ok X0 G (c.fact 47 (f := .glo "check_programs") rfl) },
    d__law_mixed := { a := He.fAd K ("_law_mixed", none), fd := fd24, F := F24, b := F24.binds fun _ _ _ _ _ _ us hl => match us, hl with | [_, _], _ => rfl, mg := He.glo_ok X0 G (c.fact 48 (f := .glo "_law_mixed") rfl) },
    d__law_pile := { a := He.fAd K ("_law_pile", none), fd := fd25, F := F25, b := F25.binds fun _ _ _ _ _ _ us hl => match us, hl with | [_, _], _ => rfl, mg := He.glo_ok X0 G (c.fact 49 (f := .glo "_law_pile") rfl) },
    d__law_take := { a := He.fAd K ("_law_take", none), fd := fd26, F := F26, b := F26.binds fun _ _ _ _ _ _ us hl => match us, hl with | [_, _], _ => rfl, mg := He.glo_ok X0 G (c.fact 50 (f := .glo "_law_take") rfl) },
    d__law_order := { a := He.fAd K ("_law_order", none), fd := fd27, F := F27, b := F27.binds fun _ _ _ _ _ _ us hl => match us, hl with | [_, _], _ => rfl, mg := He.glo_ok X0 G (c.fact 51 (f := .glo "_law_order") rfl) },
    d__law_tags := { a := He.fAd K ("_law_tags", none), fd := fd28, F := F28, b := F28.binds fun _ _ _ _ _ _ us hl => match us, hl with | [_, _], _ => rfl, mg := He.glo_ok X0 G (c.fact 52 (f := .glo "_law_tags") rfl) },
    d__law_word := { a := He.fAd K ("_law_word", none), fd := fd29, F := F29, b := F29.binds fun _ _ _ _ _ _ us hl => match us, hl with | [_, _, _], _ => rfl, mg := He.glo_ok X0 G (c.fact 53 (f := .glo "_law_word") rfl) },
    d__law_standings := { a := He.fAd K ("_law_standings", none), fd := fd30, F := F30, b := F30.binds fun _ _ _ _ _ _ us hl => match us, hl with | [_, _, _, _], _ => rfl, mg := He.glo_ok X0 G (c.fact 54 (f := .glo "_law_standings") rfl) },
    d__law_eaten := { a := He.fAd K ("_law_eaten", none), fd := fd31, F := F31, b := F31.binds fun _ _ _ _ _ _ us hl => match us, hl with | [_, _, _], _ => rfl, mg := He.glo_ok X0 G (c.fact 55 (f := .glo "_law_eaten") rfl) },
    d__law_row_done := { a := He.fAd K ("_law_row_done", none), fd := fd32, F := F32, b := F32.binds fun _ _ _ _ _ _ us hl => match us, hl with | [_, _, _, _], _ => rfl, mg := He.glo_ok X0 G (c.fact 56 (f := .glo "_law_row_done") rfl) },
    d__law_done := { a := He.fAd K ("_law_done", none), fd := fd33, F := F33, b := F33.binds fun _ _ _ _ _ _ us hl => match us, hl with | [_, _, _, _], _ => rfl, mg := He.glo_ok X0 G (c.fact 57 (f := .glo "_law_done") rfl) },
    d__law_told := { a := He.fAd K ("_law_told", none), fd := fd34, F := F34, b := F34.binds fun _ _ _ _ _ _ us hl => match us, hl with | [_, _, _, _], _ => rfl, mg := He.glo_ok X0 G (c.fact 58 (f := .glo "_law_told") rfl) },
    d__law_is_number := { a := He.fAd K ("_law_is_number", none), fd := fd35, F := F35, b := F35.binds fun _ _ _ _ _ _ us hl => match us, hl with | [_, _], _ => rfl, mg := He.glo_ok X0 G (c.fact 59 (f := .glo "_law_is_number") rfl) },
    d__law_number_due := { a := He.fAd K ("_law_number_due", none), fd := fd36, F := F36, b := F36.binds fun _ _ _ _ _ _ us hl => match us, hl with | [_, _, _, _, _], _ => rfl, mg := He.glo_ok X0 G (c.fact 60 (f := .glo "_law_number_due") rfl) },
    d__law_subject_due := { a := He.fAd K ("_law_subject_due", none), fd := fd37, F := F37, b := F37.binds fun _ _ _ _ _ _ us hl => match us, hl with | [_, _], _ => rfl, mg := He.glo_ok X0 G (c.fact 61 (f := .glo "_law_subject_due") rfl) },
    d__law_programs_due := { a := He.fAd K ("_law_programs_due", none), fd := fd38, F := F38, b := F38.binds fun _ _ _ _ _ _ us hl => match us, hl with | [_, _, _], _ => rfl, mg := He.glo_ok X0 G (c.fact 62 (f := .glo "_law_programs_due") rfl) },
    d__law_state := { a := He.fAd K ("_law_state", none), fd := fd39, F := F39, b := F39.binds fun _ _ _ _ _ _ us hl => match us, hl with | [_, _], _ => rfl, mg := He.glo_ok X0 G (c.fact 63 (f := .glo "_law_state") rfl) },
    d__law_long_right := { a := He.fAd K ("_law_long_right", none), fd := fd40, F := F40, b := F40.binds fun _ _ _ _ _ _ us hl => match us, hl with | [_], _ => rfl, mg := He.glo_ok X0 G (c.fact 64 (f := .glo "_law_long_right") rfl) },
    d_law := { a := He.fAd K ("law", none), fd := fd41, F := F41, b := F41.binds fun _ _ _ _ _ _ us hl => match us, hl with | [_], _ => rfl, mg := He.glo_ok X0 G (c.fact 65 (f := .glo "law") rfl) },
    lam_c := He.codeOf K ("without_needless_ways", none),
    lam_P := He.tabOf K (He.codeOf K ("without_needless_ways", none)),
    lam_F := G16,
    e_TagError := He.ga K "TagError",
    me_TagError := He.glo_ok X0 G (c.fact 66 (f := .glo "TagError") rfl),
    e_InvalidTags := He.ga K "InvalidTags",
    me_InvalidTags := He.glo_ok X0 G (c.fact 67 (f := .glo "InvalidTags") rfl),
    d_InvalidTags___init__ := { a := He.fAd K ("InvalidTags", some "__init__"), fd := fd42, F := F42, b := F42.binds fun _ _ _ _ _ _ us hl => match us, hl with | [_, _], _ => rfl },
    xt_InvalidTags := QX.excTB_ok b_x_InvalidTags,
    e_InvalidSubject := He.ga K "InvalidSubject",
    me_InvalidSubject := He.glo_ok X0 G (c.fact 68 (f := .glo "InvalidSubject") rfl),
    d_InvalidSubject___init__ := { a := He.fAd K ("InvalidSubject", some "__init__"), fd := fd43, F := F43, b := F43.binds fun _ _ _ _ _ _ us hl => match us, hl with | [_, _], _ => rfl },
    xt_InvalidSubject := QX.excTB_ok b_x_InvalidSubject,
    e_InvalidEater := He.ga K "InvalidEater",
    me_InvalidEater := He.glo_ok X0 G (c.fact 69 (f := .glo "InvalidEater") rfl),
    d_InvalidEater___init__ := { a := He.fAd K ("InvalidEater", some "__init__"), fd := fd44, F := F44, b := F44.binds fun _ _ _ _ _ _ us hl => match us, hl with | [_, _], _ => rfl },
    xt_InvalidEater := QX.excTB_ok b_x_InvalidEater,
    e_InvalidNumber := He.ga K "InvalidNumber",
    me_InvalidNumber := He.glo_ok X0 G (c.fact 70 (f := .glo "InvalidNumber") rfl),
    d_InvalidNumber___init__ := { a := He.fAd K ("InvalidNumber", some "__init__"), fd := fd45, F := F45, b := F45.binds fun _ _ _ _ _ _ us hl => match us, hl with | [_, _], _ => rfl },
    xt_InvalidNumber := QX.excTB_ok b_x_InvalidNumber,
    e_InvalidPrograms := He.ga K "InvalidPrograms",
    me_InvalidPrograms := He.glo_ok X0 G (c.fact 71 (f := .glo "InvalidPrograms") rfl),
    d_InvalidPrograms___init__ := { a := He.fAd K ("InvalidPrograms", some "__init__"), fd := fd46, F := F46, b := F46.binds fun _ _ _ _ _ _ us hl => match us, hl with | [_, _], _ => rfl },
    xt_InvalidPrograms := QX.excTB_ok b_x_InvalidPrograms,
    e_InvalidStarts := He.ga K "InvalidStarts",
    me_InvalidStarts := He.glo_ok X0 G (c.fact 72 (f := .glo "InvalidStarts") rfl),
    d_InvalidStarts___init__ := { a := He.fAd K ("InvalidStarts", some "__init__"), fd := fd47, F := F47, b := F47.binds fun _ _ _ _ _ _ us hl => match us, hl with | [_, _], _ => rfl },
    xt_InvalidStarts := QX.excTB_ok b_x_InvalidStarts,
    e_UnlikeTags := He.ga K "UnlikeTags",
    me_UnlikeTags := He.glo_ok X0 G (c.fact 73 (f := .glo "UnlikeTags") rfl),
    e_TooMany := He.ga K "TooMany",
    me_TooMany := He.glo_ok X0 G (c.fact 74 (f := .glo "TooMany") rfl),
    d_TooMany___init__ := { a := He.fAd K ("TooMany", some "__init__"), fd := fd48, F := F48, b := F48.binds fun _ _ _ _ _ _ us hl => match us, hl with | [_, _], _ => rfl },
    xt_TooMany := QX.excTB_ok b_x_TooMany,
    ex_InvalidTags := of_decide_eq_true b_e_InvalidTags,
    kv_InvalidTags := of_decide_eq_true b_v_InvalidTags,
    ki_InvalidTags_TagError := of_decide_eq_true b_i_InvalidTags_TagError,
    ki_InvalidTags_InvalidTags := of_decide_eq_true b_i_InvalidTags_InvalidTags,
    ki_InvalidTags_InvalidSubject := of_decide_eq_true b_i_InvalidTags_InvalidSubject,
    ki_InvalidTags_InvalidEater := of_decide_eq_true b_i_InvalidTags_InvalidEater,
    ki_InvalidTags_InvalidNumber := of_decide_eq_true b_i_InvalidTags_InvalidNumber,
    ki_InvalidTags_InvalidPrograms := of_decide_eq_true b_i_InvalidTags_InvalidPrograms,
    ki_InvalidTags_InvalidStarts := of_decide_eq_true b_i_InvalidTags_InvalidStarts,
    ki_InvalidTags_UnlikeTags := of_decide_eq_true b_i_InvalidTags_UnlikeTags,
    ki_InvalidTags_TooMany := of_decide_eq_true b_i_InvalidTags_TooMany,
    ex_InvalidSubject := of_decide_eq_true b_e_InvalidSubject,
    kv_InvalidSubject := of_decide_eq_true b_v_InvalidSubject,
    ki_InvalidSubject_TagError := of_decide_eq_true b_i_InvalidSubject_TagError,
    ki_InvalidSubject_InvalidTags := of_decide_eq_true b_i_InvalidSubject_InvalidTags,
    ki_InvalidSubject_InvalidSubject := of_decide_eq_true b_i_InvalidSubject_InvalidSubject,
    ki_InvalidSubject_InvalidEater := of_decide_eq_true b_i_InvalidSubject_InvalidEater,
    ki_InvalidSubject_InvalidNumber := of_decide_eq_true b_i_InvalidSubject_InvalidNumber,
    ki_InvalidSubject_InvalidPrograms := of_decide_eq_true b_i_InvalidSubject_InvalidPrograms,
    ki_InvalidSubject_InvalidStarts := of_decide_eq_true b_i_InvalidSubject_InvalidStarts,
    ki_InvalidSubject_UnlikeTags := of_decide_eq_true b_i_InvalidSubject_UnlikeTags,
    ki_InvalidSubject_TooMany := of_decide_eq_true b_i_InvalidSubject_TooMany,
    ex_InvalidEater := of_decide_eq_true b_e_InvalidEater,
    kv_InvalidEater := of_decide_eq_true b_v_InvalidEater,
    ki_InvalidEater_TagError := of_decide_eq_true b_i_InvalidEater_TagError,
    ki_InvalidEater_InvalidTags := of_decide_eq_true b_i_InvalidEater_InvalidTags,
    ki_InvalidEater_InvalidSubject := of_decide_eq_true b_i_InvalidEater_InvalidSubject,
    ki_InvalidEater_InvalidEater := of_decide_eq_true b_i_InvalidEater_InvalidEater,
    ki_InvalidEater_InvalidNumber := of_decide_eq_true b_i_InvalidEater_InvalidNumber,
    ki_InvalidEater_InvalidPrograms := of_decide_eq_true b_i_InvalidEater_InvalidPrograms,
    ki_InvalidEater_InvalidStarts := of_decide_eq_true b_i_InvalidEater_InvalidStarts,
    ki_InvalidEater_UnlikeTags := of_decide_eq_true b_i_InvalidEater_UnlikeTags,
    ki_InvalidEater_TooMany := of_decide_eq_true b_i_InvalidEater_TooMany,
    ex_InvalidNumber := of_decide_eq_true b_e_InvalidNumber,
    kv_InvalidNumber := of_decide_eq_true b_v_InvalidNumber,
    ki_InvalidNumber_TagError := of_decide_eq_true b_i_InvalidNumber_TagError,
    ki_InvalidNumber_InvalidTags := of_decide_eq_true b_i_InvalidNumber_InvalidTags,
    ki_InvalidNumber_InvalidSubject := of_decide_eq_true b_i_InvalidNumber_InvalidSubject,
    ki_InvalidNumber_InvalidEater := of_decide_eq_true b_i_InvalidNumber_InvalidEater,
    ki_InvalidNumber_InvalidNumber := of_decide_eq_true b_i_InvalidNumber_InvalidNumber,
    ki_InvalidNumber_InvalidPrograms := of_decide_eq_true b_i_InvalidNumber_InvalidPrograms,
    ki_InvalidNumber_InvalidStarts := of_decide_eq_true b_i_InvalidNumber_InvalidStarts,
    ki_InvalidNumber_UnlikeTags := of_decide_eq_true b_i_InvalidNumber_UnlikeTags,
    ki_InvalidNumber_TooMany := of_decide_eq_true b_i_InvalidNumber_TooMany,
    ex_InvalidPrograms := of_decide_eq_true b_e_InvalidPrograms,
    kv_InvalidPrograms := of_decide_eq_true b_v_InvalidPrograms,
    ki_InvalidPrograms_TagError := of_decide_eq_true b_i_InvalidPrograms_TagError,
    ki_InvalidPrograms_InvalidTags := of_decide_eq_true b_i_InvalidPrograms_InvalidTags,
    ki_InvalidPrograms_InvalidSubject := of_decide_eq_true b_i_InvalidPrograms_InvalidSubject,
    ki_InvalidPrograms_InvalidEater := of_decide_eq_true b_i_InvalidPrograms_InvalidEater,
    ki_InvalidPrograms_InvalidNumber := of_decide_eq_true b_i_InvalidPrograms_InvalidNumber,
    ki_InvalidPrograms_InvalidPrograms := of_decide_eq_true b_i_InvalidPrograms_InvalidPrograms,
    ki_InvalidPrograms_InvalidStarts := of_decide_eq_true b_i_InvalidPrograms_InvalidStarts,
    ki_InvalidPrograms_UnlikeTags := of_decide_eq_true b_i_InvalidPrograms_UnlikeTags,
    ki_InvalidPrograms_TooMany := of_decide_eq_true b_i_InvalidPrograms_TooMany,
    ex_InvalidStarts := of_decide_eq_true b_e_InvalidStarts,
    kv_InvalidStarts := of_decide_eq_true b_v_InvalidStarts,
    ki_InvalidStarts_TagError := of_decide_eq_true b_i_InvalidStarts_TagError,
    ki_InvalidStarts_InvalidTags := of_decide_eq_true b_i_InvalidStarts_InvalidTags,
    ki_InvalidStarts_InvalidSubject := of_decide_eq_true b_i_InvalidStarts_InvalidSubject,
    ki_InvalidStarts_InvalidEater := of_decide_eq_true b_i_InvalidStarts_InvalidEater,
    ki_InvalidStarts_InvalidNumber := of_decide_eq_true b_i_InvalidStarts_InvalidNumber,
    ki_InvalidStarts_InvalidPrograms := of_decide_eq_true b_i_InvalidStarts_InvalidPrograms,
    ki_InvalidStarts_InvalidStarts := of_decide_eq_true b_i_InvalidStarts_InvalidStarts,
    ki_InvalidStarts_UnlikeTags := of_decide_eq_true b_i_InvalidStarts_UnlikeTags,
    ki_InvalidStarts_TooMany := of_decide_eq_true b_i_InvalidStarts_TooMany,
    nx_UnlikeTags := QM2.newXB_ok b_n_UnlikeTags,
    ex_UnlikeTags := of_decide_eq_true b_e_UnlikeTags,
    kv_UnlikeTags := of_decide_eq_true b_v_UnlikeTags,
    ki_UnlikeTags_TagError := of_decide_eq_true b_i_UnlikeTags_TagError,
    ki_UnlikeTags_InvalidTags := of_decide_eq_true b_i_UnlikeTags_InvalidTags,
    ki_UnlikeTags_InvalidSubject := of_decide_eq_true b_i_UnlikeTags_InvalidSubject,
    ki_UnlikeTags_InvalidEater := of_decide_eq_true b_i_UnlikeTags_InvalidEater,
    ki_UnlikeTags_InvalidNumber := of_decide_eq_true b_i_UnlikeTags_InvalidNumber,
    ki_UnlikeTags_InvalidPrograms := of_decide_eq_true b_i_UnlikeTags_InvalidPrograms,
    ki_UnlikeTags_InvalidStarts := of_decide_eq_true b_i_UnlikeTags_InvalidStarts,
    ki_UnlikeTags_UnlikeTags := of_decide_eq_true b_i_UnlikeTags_UnlikeTags,
    ki_UnlikeTags_TooMany := of_decide_eq_true b_i_UnlikeTags_TooMany,
    ex_TooMany := of_decide_eq_true b_e_TooMany,
    kv_TooMany := of_decide_eq_true b_v_TooMany,
    ki_TooMany_TagError := of_decide_eq_true b_i_TooMany_TagError,
    ki_TooMany_InvalidTags := of_decide_eq_true b_i_TooMany_InvalidTags,
    ki_TooMany_InvalidSubject := of_decide_eq_true b_i_TooMany_InvalidSubject,
    ki_TooMany_InvalidEater := of_decide_eq_true b_i_TooMany_InvalidEater,
    ki_TooMany_InvalidNumber := of_decide_eq_true b_i_TooMany_InvalidNumber,
    ki_TooMany_InvalidPrograms := of_decide_eq_true b_i_TooMany_InvalidPrograms,
    ki_TooMany_InvalidStarts := of_decide_eq_true b_i_TooMany_InvalidStarts,
    ki_TooMany_UnlikeTags := of_decide_eq_true b_i_TooMany_UnlikeTags,
    ki_TooMany_TooMany := of_decide_eq_true b_i_TooMany_TooMany,
    c_Eater := He.ga K "Eater",
    m_Eater := He.glo_ok X0 G (c.fact 75 (f := .glo "Eater") rfl),
    cl_Eater := He.cls_ok (c.fact 76 (f := .cls "Eater") rfl),
    oc_Eater := QE.ownB_ok b_own_Eater,
    d_Eater___init__ := { a := He.fAd K ("Eater", some "__init__"), fd := fd49, F := F49, b := F49.binds fun _ _ _ _ _ _ us hl => match us, hl with | [_, _, _], _ => rfl },
    d_Eater___len__ := { a := He.fAd K ("Eater", some "__len__"), fd := fd50, F := F50, b := F50.binds fun _ _ _ _ _ _ us hl => match us, hl with | [_], _ => rfl },
    h_Eater___len__ := He.meth_ok (c.fact 77 (f := .meth "Eater" "__len__") rfl),
    d_Eater___eq__ := { a := He.fAd K ("Eater", some "__eq__"), fd := fd51, F := F51, b := F51.binds fun _ _ _ _ _ _ us hl => match us, hl with | [_, _], _ => rfl },
    h_Eater___eq__ := He.meth_ok (c.fact 78 (f := .meth "Eater" "__eq__") rfl),
    d_Eater___contains__ := { a := He.fAd K ("Eater", some "__contains__"), fd := fd52, F := F52, b := F52.binds fun _ _ _ _ _ _ us hl => match us, hl with | [_, _], _ => rfl },
    h_Eater___contains__ := He.meth_ok (c.fact 79 (f := .meth "Eater" "__contains__") rfl),
    d_Eater_tags := { a := He.fAd K ("Eater", some "tags"), fd := fd53, F := F53, b := F53.binds fun _ _ _ _ _ _ us hl => match us, hl with | [_], _ => rfl },
    h_Eater_tags := He.meth_ok (c.fact 80 (f := .meth "Eater" "tags") rfl),
    d_Eater_standings := { a := He.fAd K ("Eater", some "standings"), fd := fd54, F := F54, b := F54.binds fun _ _ _ _ _ _ us hl => match us, hl with | [_], _ => rfl },
    h_Eater_standings := He.meth_ok (c.fact 81 (f := .meth "Eater" "standings") rfl),
    d_Eater_on := { a := He.fAd K ("Eater", some "on"), fd := fd55, F := F55, b := F55.binds fun _ _ _ _ _ _ us hl => match us, hl with | [_, _], _ => rfl },
    h_Eater_on := He.meth_ok (c.fact 82 (f := .meth "Eater" "on") rfl),
    d_Eater_settled := { a := He.fAd K ("Eater", some "settled"), fd := fd56, F := F56, b := F56.binds fun _ _ _ _ _ _ us hl => match us, hl with | [_, _], _ => rfl },
    h_Eater_settled := He.meth_ok (c.fact 83 (f := .meth "Eater" "settled") rfl),
    d_Eater_then := { a := He.fAd K ("Eater", some "then"), fd := fd57, F := F57, b := F57.binds fun _ _ _ _ _ _ us hl => match us, hl with | [_, _], _ => rfl },
    h_Eater_then := He.meth_ok (c.fact 84 (f := .meth "Eater" "then") rfl),
    d_Eater_power := { a := He.fAd K ("Eater", some "power"), fd := fd58, F := F58, b := F58.binds fun _ _ _ _ _ _ us hl => match us, hl with | [_, _], _ => rfl },
    h_Eater_power := He.meth_ok (c.fact 85 (f := .meth "Eater" "power") rfl),
    mk_Eater := He.mkr_ok (c.fact 86 (f := .mkr "Eater") rfl),
    na_Eater__standings := He.noat_ok (c.fact 87 (f := .noat "Eater" "_standings") rfl),
    na_Eater__tags := He.noat_ok (c.fact 88 (f := .noat "Eater" "_tags") rfl),
    c_Mailbox := He.ga K "Mailbox",
    m_Mailbox := He.glo_ok X0 G (c.fact 89 (f := .glo "Mailbox") rfl),
    cl_Mailbox := He.cls_ok (c.fact 90 (f := .cls "Mailbox") rfl),
    d_Mailbox___init__ := { a := He.fAd K ("Mailbox", some "__init__"), fd := fd59, F := F59, b := F59.binds fun _ _ _ _ _ _ us hl => match us, hl with | [_, _, _], _ => rfl },
    d_Mailbox___len__ := { a := He.fAd K ("Mailbox", some "__len__"), fd := fd60, F := F60, b := F60.binds fun _ _ _ _ _ _ us hl => match us, hl with | [_], _ => rfl },
    h_Mailbox___len__ := He.meth_ok (c.fact 91 (f := .meth "Mailbox" "__len__") rfl),
    d_Mailbox___getitem__ := { a := He.fAd K ("Mailbox", some "__getitem__"), fd := fd61, F := F61, b := F61.binds fun _ _ _ _ _ _ us hl => match us, hl with | [_, _], _ => rfl },
    h_Mailbox___getitem__ := He.meth_ok (c.fact 92 (f := .meth "Mailbox" "__getitem__") rfl),
    d_Mailbox___iter__ := { a := He.fAd K ("Mailbox", some "__iter__"), fd := fd62, F := F62, b := F62.binds fun _ _ _ _ _ _ us hl => match us, hl with | [_], _ => rfl },
    h_Mailbox___iter__ := He.meth_ok (c.fact 93 (f := .meth "Mailbox" "__iter__") rfl),
    d_Mailbox_begin := { a := He.fAd K ("Mailbox", some "begin"), fd := fd63, F := F63, b := F63.binds fun _ _ _ _ _ _ us hl => match us, hl with | [_, _], _ => rfl },
    h_Mailbox_begin := He.meth_ok (c.fact 94 (f := .meth "Mailbox" "begin") rfl),
    d_Mailbox_answer := { a := He.fAd K ("Mailbox", some "answer"), fd := fd64, F := F64, b := F64.binds fun _ _ _ _ _ _ us hl => match us, hl with | [_, _, _], _ => rfl },
    h_Mailbox_answer := He.meth_ok (c.fact 95 (f := .meth "Mailbox" "answer") rfl),
    d_Mailbox_key_of := { a := He.fAd K ("Mailbox", some "key_of"), fd := fd65, F := F65, b := F65.binds fun _ _ _ _ _ _ us hl => match us, hl with | [_, _], _ => rfl },
    h_Mailbox_key_of := He.meth_ok (c.fact 96 (f := .meth "Mailbox" "key_of") rfl),
    d_Mailbox_talk := { a := He.fAd K ("Mailbox", some "talk"), fd := fd66, F := F66, b := F66.binds fun _ _ _ _ _ _ us hl => match us, hl with | [_, _], _ => rfl },
    h_Mailbox_talk := He.meth_ok (c.fact 97 (f := .meth "Mailbox" "talk") rfl),
    d_Mailbox_talks := { a := He.fAd K ("Mailbox", some "talks"), fd := fd67, F := F67, b := F67.binds fun _ _ _ _ _ _ us hl => match us, hl with | [_], _ => rfl },
    h_Mailbox_talks := He.meth_ok (c.fact 98 (f := .meth "Mailbox" "talks") rfl),
    d_Mailbox_tried := { a := He.fAd K ("Mailbox", some "tried"), fd := fd68, F := F68, b := F68.binds fun _ _ _ _ _ _ us hl => match us, hl with | [_, _, _], _ => rfl },
    h_Mailbox_tried := He.meth_ok (c.fact 99 (f := .meth "Mailbox" "tried") rfl),
    d_Mailbox_undo := { a := He.fAd K ("Mailbox", some "undo"), fd := fd69, F := F69, b := F69.binds fun _ _ _ _ _ _ us hl => match us, hl with | [_], _ => rfl },
    h_Mailbox_undo := He.meth_ok (c.fact 100 (f := .meth "Mailbox" "undo") rfl),
    d_Mailbox_trial := { a := He.fAd K ("Mailbox", some "trial"), fd := fd70, F := F70, b := F70.binds fun _ _ _ _ _ _ us hl => match us, hl with | [_], _ => rfl },
    h_Mailbox_trial := He.meth_ok (c.fact 101 (f := .meth "Mailbox" "trial") rfl),
    d_Mailbox__come := { a := He.fAd K ("Mailbox", some "_come"), fd := fd71, F := F71, b := F71.binds fun _ _ _ _ _ _ us hl => match us, hl with | [_, _], _ => rfl },
    h_Mailbox__come := He.meth_ok (c.fact 102 (f := .meth "Mailbox" "_come") rfl),
    d_Mailbox__answered := { a := He.fAd K ("Mailbox", some "_answered"), fd := fd72, F := F72, b := F72.binds fun _ _ _ _ _ _ us hl => match us, hl with | [_, _, _], _ => rfl },
    h_Mailbox__answered := He.meth_ok (c.fact 103 (f := .meth "Mailbox" "_answered") rfl),
    d_Mailbox__with_key := { a := He.fAd K ("Mailbox", some "_with_key"), fd := fd73, F := F73, b := F73.binds fun _ _ _ _ _ _ us hl => match us, hl with | [_, _], _ => rfl },
    h_Mailbox__with_key := He.meth_ok (c.fact 104 (f := .meth "Mailbox" "_with_key") rfl),
    mk_Mailbox := He.mkr_ok (c.fact 105 (f := .mkr "Mailbox") rfl),
    na_Mailbox__key := He.noat_ok (c.fact 106 (f := .noat "Mailbox" "_key") rfl),
    na_Mailbox__letters := He.noat_ok (c.fact 107 (f := .noat "Mailbox" "_letters") rfl),
    na_Mailbox__programs := He.noat_ok (c.fact 108 (f := .noat "Mailbox" "_programs") rfl) }, rfl, rfl, rfl⟩
end Law
end

section
set_option Elab.async false
set_option linter.all false
set_option maxRecDepth 100000
set_option maxHeartbeats 0
namespace Law
open PySem PySem.Spec PyProof.Rows L2 LamX QB QM
abbrev R : PySem.W.OpenRow := PySem.W.OpenLaw.row PySem.Challenge.rw_subjecttags_k51_mailboxes_refused
def tfs : List He.Defn := [("without_needless_ways", none)]
abbrev hk : PySem.W.Hook := He.hookX 5 fas dds [] tfs exB
def ob (s : PySem.W.SharedT) : He.AlX := He.obsX 5 fas dds [] tfs exB (HandSHeadRun.getT s)
theorem ob_eq (s : PySem.W.SharedT) : ob s = hk.obs s.abs := He.obsX_eq (HandSHeadRun.getT_eq s)
def names : List Str := (["_wall", "TagError", "InvalidTags", "InvalidSubject", "InvalidEater", "InvalidNumber", "InvalidPrograms", "InvalidStarts", "UnlikeTags", "TooMany", "LETTERS", "MOST_LETTERS", "MOST_TAGS", "MOST_STANDINGS", "LONGEST_WORD", "LONGEST_SUBJECT", "is_number", "is_list", "is_name", "is_tag"] : List Str) ++ (["is_subject", "is_standing", "check_tags", "check_word", "check_standings", "check_number", "walked", "made", "is_settled_at", "is_made_at", "copied", "without_needless_ways", "numbered", "parted", "alike_classes", "in_order_met", "least_form", "Eater", "check_same_tags", "MOST_PROGRAMS"] : List Str) ++ (["check_programs", "Mailbox", "_law_mixed", "_law_pile", "_law_take", "_law_order", "_law_tags", "_law_word", "_law_standings", "_law_eaten", "_law_row_done", "_law_done", "_law_told", "_law_is_number", "_law_number_due", "_law_subject_due", "_law_programs_due", "_law_state", "_law_long_right"] : List Str)
theorem run (w : World) : HandSHeadRun.RunEq R (PySem.W.view R.prog [66]) hk ob 8000 names w := by
  intro os
  kernel_rfl
end Law
end

section
set_option Elab.async false
set_option linter.all false
set_option maxRecDepth 100000
set_option maxHeartbeats 0
namespace Law
open PySem PySem.W PySem.Calls PyProof.Rows
theorem hd1 : opening R.prog = plainProg R.prog.main.scope.names := by kernel_rfl
theorem hd2 (s : PySem.Shared) : fenceModules? R.prog s = some s := by kernel_rfl
theorem hd3 : defOf (view R.prog [66]) R.name = some (HandSHeadRun.topDef R.prog 66, []) := by kernel_rfl
theorem hd4 : R.prog.theDef R.name = some ((HandSHeadRun.topDef R.prog 66).params, (HandSHeadRun.topDef R.prog 66).body, (HandSHeadRun.topDef R.prog 66).scope) := by kernel_rfl
theorem hd5 : kwWritten? (HandSHeadRun.topDef R.prog 66).params.kwonlyargs (HandSHeadRun.topDef R.prog 66).params.kw_defaults = some [] := by kernel_rfl
theorem hd6 : (!R.writes || R.records.isEmpty) = true := by rfl
theorem hd7 : R.wellSaid = true := by decide +kernel
theorem hd8 : (chainsOk (view R.prog [66]) && opensWell R.prog && (frees R.toRowW && R.within.isEmpty)) = true := by decide +kernel
theorem hd9 : R.prog.bare := ⟨rfl, rfl, rfl, rfl, rfl, by decide +kernel⟩
theorem hd10 : (HandSHeadRun.topDef R.prog 66).name = ("law" : PySem.Str) := by kernel_rfl
theorem hd11 : (HandSHeadRun.topDef R.prog 66).params.defaults = [] := by kernel_rfl
end Law
namespace Law
open PySem PySem.W PySem.Calls PyProof.Rows
theorem hd12 : importsNone (view R.prog [66]) = true := by decide +kernel
end Law
end

section
set_option Elab.async false
set_option linter.all false
set_option maxRecDepth 100000
set_option maxHeartbeats 4000000
namespace Law
open PySem PySem.Spec PyProof.Rows L2 LamX QB QM
section
variable {P : Program} {w : World} {K : PySem.W.Frag} {mg : Str → Option Value} {base : Heap}
def spCopied : Sp := fun vs H Q _ => ∃ (b : Addr) (F : Form), vs = [.ref b] ∧ FormAt H b F ∧ F.length ≤ 10000 ∧ ∀ (p : Addr) (L : List Tri) (H' : Hp), Same H H' → NewF H H' p L F → Q (.ref p) H'
theorem ok_copied (X : TX K mg) : FnOk P w K mg base CX0 1 X.d_copied.a X.d_copied.fd ["standings"] spCopied := by
  have nd := sc_copied.nd
  refine X.d_copied.F.ok sc_copied (fun vs H Q E h => ?_) (fun cdv A outer s H vs Q E hr h => ?_)
  · obtain ⟨b, F, rfl, _⟩ := h
    rfl
  · obtain ⟨b, F, rfl, hF, hz, k⟩ := h
    refine ⟨_, (pss_one (ps_ret (pe_lc (own := [("word", 1), ("ways", 2)]) (g := gTup K 2 (gCons (gName 1) (gCons (gName 2) (gNil)))) (tt := tYes) rfl nd (QB.pi_listK K (pv 0)) (blkOk_by (N := ["standings", "word", "ways"]) (sc := defScope s_copied) (by decide +kernel)) (fun _ _ _ _ _ => pg_tup (by rfl) (pgs_cons (pg_name (i := 1) nd rfl (Or.inl rfl)) (pgs_cons (pg_name (i := 2) nd rfl (Or.inl rfl)) (pgs_nil)))) (fun _ _ _ _ _ => pts_nil) (fun _ _ _ _ _ => (pe_tup (pa_cons (pe_callTy (QB.call_listK K) (by rfl) X.n_list QB.bo_list (pa_cons (pv 1) pa_nil)) (pa_cons (pe_callTy (QB.call_listK K) (by rfl) X.n_list QB.bo_list (pa_cons (pv 2) pa_nil)) pa_nil))))))), ?_⟩
    try dsimp only [Cx.nox, Cx.wish, cxOf]
    obtain ⟨vs, hv, hvl⟩ := FormAt.lst hF
    refine ⟨_, rfl, _, rfl, ⟨_, SqL.of hv⟩, fun D hD => ?_⟩
    refine lc_it (walk_listF (K := K) (p := b) (F := F)) (fun i H' => Same H H' ∧ ∃ L, H' D = some (.lst (L.map fun x => V.ref x.1)) ∧ NewL H H' L (F.take i) ∧ D ∉ inner L)
      ⟨same_new hD, [], upd_same, NewL.nil, by simp [inner]⟩ (fun i H' _ h => Same.form h.1 hF) ?_ ?_
    · rintro i x H1 H2 hi ⟨s1, L, hL, nL, oD⟩ ⟨s, t, a, b', hs, rfl, rfl, h1, h2, h3⟩
      refine ⟨t, _, rfl, SqT.of h1, rfl, _, _, rfl, _, _, rfl, rfl, rfl, ?_⟩
      refine ⟨_, rfl, _, _, rfl, .inl (SqL.of h2), fun p1 hp1 => ?_⟩
      have e1 : Same H2 (upd H2 p1 (.lst (vS s.1))) := same_new hp1
      refine ⟨_, rfl, _, _, rfl, .inl (SqL.of (Same.ways e1 h3)), fun p2 hp2 => ?_⟩
      have e2 := Same.new e1 (o := .lst (vWs s.2)) hp2
      refine ⟨by show 2 ≤ sizeLine; decide, fun p3 hp3 => ?_⟩
      have e3 := Same.new e2 (o := .tup [V.ref p1, V.ref p2]) hp3
      have q1 : (upd (upd (upd H2 p1 (.lst (vS s.1))) p2 (.lst (vWs s.2))) p3 (.tup [V.ref p1, V.ref p2])) p1 = some (.lst (vS s.1)) := by
        rw [upd_ne (ne_of_none ((upd_ne (ne_of_none upd_same hp2)).trans upd_same) hp3), upd_ne (ne_of_none upd_same hp2), upd_same]
      have q2 : (upd (upd (upd H2 p1 (.lst (vS s.1))) p2 (.lst (vWs s.2))) p3 (.tup [V.ref p1, V.ref p2])) p2 = some (.lst (vWs s.2)) := by
        rw [upd_ne (ne_of_none upd_same hp3), upd_same]
      have n2 : H2 p2 = none := e1.free hp2
      have n3 : H2 p3 = none := e2.free hp3
      have n12 : p1 ≠ p2 := ne_of_none upd_same hp2
      have hs' : F.take (i + 1) = F.take i ++ [s] := by rw [List.take_succ, hs]; rfl
      refine ⟨_, e3 _ _ hL, ?_, Same.mut (s1.trans e3) hD, L ++ [(p3, p1, p2)], ?_, ?_, ?_⟩
      · rw [List.length_map, nL.len, List.length_take]
        exact sz_lt (by omega)
      · rw [upd_same, List.map_append]
        rfl
      · rw [hs']
        have n := nL.snoc e3 hp1 n2 n12 (t := p3) (s := s) upd_same q1 q2 (.of (s1.free n3)) (.of (s1.free hp1)) (.of (s1.free n2))
        exact n.upd (e3 _ _ hL) (not_inner_snoc oD (ne_of_none hL hp1) (ne_of_none hL n2))
      · exact not_inner_snoc oD (ne_of_none hL hp1) (ne_of_none hL n2)
    · rintro H1 ⟨s1, L, hL, nL, oD⟩
      rw [List.take_length] at nL
      exact k D L H1 s1 ⟨hL, nL, .of hD, oD⟩

/-- a list of tuples that are keys -/
def MarksAt (H : Hp) (a : Addr) (ks : List NestedKey) : Prop := ∃ bs : List Addr, H a = some (.lst (bs.map V.ref)) ∧ Paired (fun b k => QD.NV H k (.ref b) ∧ k.depth ≤ 8) bs ks
def IntsAt (H : Hp) (a : Addr) (ns : List Nat) : Prop := H a = some (.lst (ns.map fun (n : Nat) => V.int (n : Int)))
def spNumbered : Sp := fun vs H Q _ => ∃ (a : Addr) (ks : List NestedKey), vs = [.ref a] ∧ MarksAt H a ks ∧ ks.length ≤ 10000 ∧ ∀ (p : Addr) (H' : Hp), Same H H' → H p = none → IntsAt H' p (QD.numb ks) → Q (.ref p) H'
theorem ok_numbered (X : TX K mg) : FnOk P w K mg base CX0 1 X.d_numbered.a X.d_numbered.fd ["marks"] spNumbered := by
  have nd := sc_numbered.nd
  refine X.d_numbered.F.ok sc_numbered (fun vs H Q E h => ?_) (fun cdv A outer s H vs Q E hr h => ?_)
  · obtain ⟨a, ks, rfl, _⟩ := h
    rfl
  · obtain ⟨a, ks, rfl, ⟨bs, hb, hbs⟩, hz, k⟩ := h
    refine ⟨_, (pss_cons (ps_set (i := 1) nd rfl (Or.inl rfl) QD.pe_newN) (pss_cons (ps_set (i := 2) nd rfl (Or.inl rfl) (pe_lst pa_nil)) (pss_cons (ps_for PassesOwn.never rfl (QB.pi_listK K (pv 0)) (pg_name (i := 3) nd rfl (Or.inl rfl)) (pss_cons (ps_if (pt_cmp (QD.pc_notinN (hu64 hr) (pv 3) (pv 1))) (pss_one (QD.ps_putN (hu64 hr) (pv 1) (pv 3) (pe_callB QD.call_lenN (by rfl) X.n_len PySem.boot_len (pa_cons (pv 1) pa_nil)) rfl)) pss_nil) (pss_one (ps_expr (QB.pe_bmK K PySem.F.plainAttrs_list PySem.F.slot_list_append PySem.F.type_list_append mt_append (pv 2) (pa_cons (QD.pe_getN (hu64 hr) (pv 1) (pv 3) (fun _ _ => rfl)) pa_nil)))))) (pss_one (ps_ret (pv 2)))))), ?_⟩
    try dsimp only [Cx.nox, Cx.wish, cxOf]
    refine fun d H1 hd o1 dn1 _ => ?_
    have s1 : Same H H1 := fun b u e => by rw [o1 b (ne_of_none e hd)]; exact e
    refine ⟨Nat.zero_le _, fun l hl => ?_⟩
    have hl0 : H l = none := s1.free hl
    have ndl : d ≠ l := by
      obtain ⟨_, xs, h1, _⟩ := dn1
      exact ne_of_none h1 hl
    refine ⟨_, rfl, _, rfl, ⟨_, SqL.of (Eq.trans (upd_ne (ne_of_none (s1 _ _ hb) hl)) (s1 _ _ hb))⟩, ?_⟩
    have hlen := Paired.length hbs
    refine for_it (walk_list (K := K) (a := a) (xs := bs.map V.ref)) (fun i σ H' => ∃ (v3 : Option V), σ = [some (.ref a), some (.ref d), some (.ref l), v3] ∧ Same H H' ∧ QD.DN P w H' d (QD.dictFrom 0 (QD.seenOf (ks.take i))) ∧ IntsAt H' l (QD.numb (ks.take i)))
      ⟨none, rfl, Same.new s1 hl, dn1.to (fun b xs e => (upd_ne (ne_of_none e hl)).trans e) (upd_ne ndl), upd_same⟩ (fun i σ H' _ ⟨_, _, s2, _⟩ => SqL.of (s2 _ _ hb)) ?_ ?_
    · rintro i x σ H2 H3 hi ⟨v3, rfl, s2, dn, hI⟩ ⟨rfl, hx⟩
      rw [List.length_map] at hi
      have hbi : bs[i]? = some bs[i] := List.getElem?_eq_getElem hi
      rw [List.getElem?_map, hbi] at hx
      cases hx
      obtain ⟨m, hm, nv, dp⟩ := paired_get' hbs hbi
      have nv3 : QD.NV H3 m (.ref bs[i]) := nv.to fun b xs e => s2 _ _ e
      have htk : ks.take (i + 1) = ks.take i ++ [m] := by rw [List.take_succ, hm]; rfl
      have hsl := QD.seenOf_len (ks.take i)
      rw [List.length_take] at hsl
      have hIl : (QD.numb (ks.take i)).length ≤ 10000 := by rw [QD.numb_len, List.length_take]; omega
      refine ⟨_, rfl, _, rfl, d, bs[i], _, m, rfl, rfl, dn, nv3, dp, _, rfl, ?_⟩
      rw [QD.valV_dictFrom]
      by_cases hin : m ∈ QD.seenOf (ks.take i)
      · rw [if_pos hin]
        refine ⟨_, rfl, .inl ⟨rfl, _, SqL.of hI⟩, ?_⟩
        refine ⟨_, rfl, _, rfl, d, bs[i], _, m, _, rfl, rfl, dn, nv3, dp, (by rw [QD.valV_dictFrom, if_pos hin]), ?_⟩
        refine ⟨l, _, _, rfl, rfl, hI, sz_lt (by rw [List.length_map]; omega), ?_⟩
        refine ⟨_, rfl, Same.mut s2 hl0, dn.to (fun b xs e => (upd_ne (ne_of e hI (fun z => nomatch z))).trans e) (upd_ne ?_) |> (fun z => by rw [htk, QD.seenOf_snoc]; unfold QD.addSeen; rw [if_pos hin]; exact z), ?_⟩
        · obtain ⟨_, xs, h1, _⟩ := dn
          exact ne_of h1 hI (fun z => nomatch z)
        · rw [htk]
          unfold IntsAt
          rw [upd_same, QD.numb_snoc, List.map_append]
          unfold QD.addSeen
          rw [if_pos hin, Nat.zero_add]
          rfl
      · rw [if_neg hin]
        refine ⟨_, rfl, d, _, rfl, dn, _, rfl, _, rfl, d, bs[i], _, m, rfl, rfl, dn, nv3, dp, sz_lt (by rw [QD.dictFrom_len]; omega), fun H4 o4 dn4 _ => ?_⟩
        rw [QD.dictFrom_len] at dn4
        have dn5 : QD.DN P w H4 d (QD.dictFrom 0 (QD.seenOf (ks.take i) ++ [m])) := by
          have e := QD.putK_dictFrom (n := 0) hin
          rw [Nat.zero_add] at e
          rw [← e]
          exact dn4
        have ndl2 : l ≠ d := by
          obtain ⟨_, xs, h1, _⟩ := dn
          exact (ne_of h1 hI (fun z => nomatch z)).symm
        have hd3 : ∀ b xs, H3 b = some (.tup xs) → H4 b = some (.tup xs) := fun b xs e => by
          obtain ⟨_, ys, h1, _⟩ := dn
          exact (o4 b (ne_of e h1 (fun z => nomatch z))).trans e
        have nv4 := nv3.to hd3
        have hI4 : IntsAt H4 l (QD.numb (ks.take i)) := (o4 l ndl2).trans hI
        have s4 : Same H H4 := fun b u e => (o4 b (ne_of_none e hd)).trans (s2 b u e)
        refine ⟨_, rfl, .inl ⟨rfl, _, SqL.of hI4⟩, ?_⟩
        refine ⟨_, rfl, _, rfl, d, bs[i], _, m, _, rfl, rfl, dn5, nv4, dp, (by rw [QD.valV_dictFrom, if_pos (by simp)]), ?_⟩
        refine ⟨l, _, _, rfl, rfl, hI4, sz_lt (by rw [List.length_map]; omega), ?_⟩
        refine ⟨_, rfl, Same.mut s4 hl0, dn5.to (fun b xs e => (upd_ne (ne_of e hI4 (fun z => nomatch z))).trans e) (upd_ne ndl2.symm) |> (fun z => by rw [htk, QD.seenOf_snoc]; unfold QD.addSeen; rw [if_neg hin]; exact z), ?_⟩
        rw [htk]
        unfold IntsAt
        rw [upd_same, QD.numb_snoc, List.map_append]
        unfold QD.addSeen
        rw [if_neg hin, Nat.zero_add]
        rfl
    · rintro σ H2 ⟨v3, rfl, s2, dn, hI⟩
      rw [List.take_of_length_le (by rw [List.length_map]; omega)] at hI
      exact ⟨_, rfl, k l H2 s2 hl0 hI⟩
end
end Law
end

section
set_option Elab.async false
set_option linter.all false
set_option maxRecDepth 100000
set_option maxHeartbeats 4000000
namespace Law
open PySem PySem.Spec PyProof.Rows L2 LamX QB QM
section
variable {P : Program} {w : World} {K : PySem.W.Frag} {mg : Str → Option Value} {base : Heap}
theorem ints_get {ns : List Nat} {k n : Nat} (h : ns[k]? = some n) : (ns.map fun (n : Nat) => V.int (n : Int))[k]? = some (.int (n : Int)) := by
  rw [List.getElem?_map, h]
  rfl
theorem Same.ints {H H' : Hp} {a : Addr} {ns : List Nat} (e : Same H H') (h : IntsAt H a ns) : IntsAt H' a ns := e _ _ h
theorem Same.marks {H H' : Hp} {a : Addr} {ks : List NestedKey} (e : Same H H') (h : MarksAt H a ks) : MarksAt H' a ks := by
  obtain ⟨bs, h1, h2⟩ := h
  exact ⟨bs, e _ _ h1, L2.Paired.mapP h2 fun b k z => ⟨z.1.to fun c xs e' => e _ _ e', z.2⟩⟩
/-- the standings' ways lead to standings -/
def WaysIn (F : Form) : Prop := ∀ s ∈ F, s.2.length ≤ 100 ∧ ∀ n, some n ∈ s.2 → n < F.length
theorem nvs_ints {H : Hp} (f : α → Int) : ∀ l : List α, QD.NVs H (l.map fun x => NestedKey.num (f x)) (l.map fun x => V.int (f x))
  | [] => .nil
  | _ :: l => .cons (.num _) (nvs_ints f l)
def wayInt (cs : List Nat) : Option Nat → Int
  | none => -1
  | some n => ((cs.getD n 0 : Nat) : Int)
theorem wayNum_eq (cs : List Nat) (w : Option Nat) : wayNum cs w = .num (wayInt cs w) := by cases w <;> rfl
theorem depthAll_num (f : α → Int) : ∀ l : List α, NestedKey.depthAll (l.map fun x => NestedKey.num (f x)) = 0
  | [] => rfl
  | _ :: l => by
    show max (NestedKey.depth (.num _)) (NestedKey.depthAll _) = 0
    rw [depthAll_num f l]
    rfl
def spParted : Sp := fun vs H Q _ => ∃ (a b : Addr) (cs : List Nat) (F : Form), vs = [.ref a, .ref b] ∧ IntsAt H a cs ∧ FormAt H b F ∧ cs.length = F.length ∧ F.length ≤ 5000 ∧ WaysIn F ∧
  ∀ (p : Addr) (H' : Hp), Same H H' → H p = none → IntsAt H' p (part cs F) → Q (.ref p) H'
theorem ok_parted (X : TX K mg) : FnOk P w K mg base CX0 2 X.d_parted.a X.d_parted.fd ["classes", "standings"] spParted := by
  have nd := sc_parted.nd
  refine X.d_parted.F.ok sc_parted (fun vs H Q E h => ?_) (fun cdv A outer s H vs Q E hr h => ?_)
  · obtain ⟨a, b, cs, F, rfl, _⟩ := h
    rfl
  · obtain ⟨a, b, cs, F, rfl, hc, hF, hlen, hz, hin, k⟩ := h
    refine ⟨_, (pss_cons (ps_set (i := 2) nd rfl (Or.inl rfl) (pe_lst pa_nil)) (pss_cons (ps_for PassesOwn.never rfl (QB.pi_zipK K (by rfl) X.n_zip (pa_cons (pv 0) (pa_cons (pv 1) pa_nil))) (pg_tup (by rfl) (pgs_cons (pg_name (i := 3) nd rfl (Or.inl rfl)) (pgs_cons (pg_tup (by rfl) (pgs_cons (pg_name (i := 4) nd rfl (Or.inl rfl)) (pgs_cons (pg_name (i := 5) nd rfl (Or.inl rfl)) (pgs_nil)))) (pgs_nil)))) (pss_one (ps_expr (QB.pe_bmK K PySem.F.plainAttrs_list PySem.F.slot_list_append PySem.F.type_list_append mt_append (pv 2) (pa_cons (pe_tup (pa_cons (pv 3) (pa_cons (pe_callTy (QB.call_tupleK K) (by rfl) X.n_tuple QB.bo_tuple (pa_cons (pe_lc (own := [("way", 6)]) (g := gName 6) (tt := tYes) rfl nd (QB.pi_listK K (pv 5)) (blkOk_by (N := ["classes", "standings", "marks", "number", "_", "ways", "way"]) (sc := defScope s_parted) (by decide +kernel)) (fun _ _ _ _ _ => pg_name (i := 6) nd rfl (Or.inl rfl)) (fun _ _ _ _ _ => pts_nil) (fun _ _ _ _ _ => (pe_ifExp (pt_cmpR op_isN (pv 6) pe_non (nomark _)) (pe_un un_neg pe_int) (pe_ix (QB.ix_listK K) (pv 0) (pv 6) (fun _ _ => rfl))))) pa_nil)) pa_nil))) pa_nil))))) (pss_one (ps_ret (pe_call (ok_numbered X) (hr.mono (by decide)) rfl X.d_numbered.mg X.d_numbered.F.kp X.d_numbered.b .nil pass0 (pa_cons (pv 2) pa_nil)))))), ?_⟩
    try dsimp only [Cx.nox, Cx.wish, cxOf]
    refine ⟨Nat.zero_le _, fun l hl => ?_⟩
    have s0 : Same H (upd H l (.lst [])) := same_new hl
    obtain ⟨ts, hts, hpr⟩ := hF
    have hlt := Paired.length hpr
    refine ⟨_, rfl, _, rfl, _, _, _, _, rfl, SqL.of (Same.ints s0 hc), SqL.of (s0 _ _ hts), ?_⟩
    refine for_it (walk_zip (K := K) (a := a) (b := b) (n := F.length) (by rw [List.length_map, List.length_map]; omega)) (fun i σ H' => ∃ (v3 v4 v5 : Option V), σ = [some (.ref a), some (.ref b), some (.ref l), v3, v4, v5, none] ∧ Same H H' ∧ MarksAt H' l ((partKeys cs F).take i))
      ⟨none, none, none, rfl, s0, [], upd_same, .nil⟩ (fun i σ H' _ ⟨_, _, _, _, s1, _⟩ => ⟨SqL.of (Same.ints s1 hc), SqL.of (s1 _ _ hts)⟩) ?_ ?_
    · rintro i x σ H1 H2 hi ⟨v3, v4, v5, rfl, s1, ms, hms, hpm⟩ ⟨tp, x1, x2, rfl, ntp, rfl, e1, e2⟩
      have hci : cs[i]? = some (cs[i]'(by omega)) := List.getElem?_eq_getElem _
      have e1 : (cs.map fun (n : Nat) => V.int (n : Int))[i]? = some x1 := e1
      rw [ints_get hci] at e1
      cases e1
      have hFi : F[i]? = some F[i] := List.getElem?_eq_getElem hi
      obtain ⟨t, ht, p1, p2, f1, f2, f3⟩ := paired_get hpr hFi
      have e2 : (ts.map V.ref)[i]? = some x2 := e2
      rw [List.getElem?_map, ht] at e2
      cases e2
      have s2 : Same H (upd H1 tp (.tup [.int ((cs[i]'(by omega) : Nat) : Int), .ref t])) := Same.new s1 ntp
      have s12 : Same H1 (upd H1 tp (.tup [.int ((cs[i]'(by omega) : Nat) : Int), .ref t])) := same_new ntp
      refine ⟨tp, _, rfl, SqT.of upd_same, rfl, _, _, rfl, _, _, rfl, ⟨t, _, rfl, SqT.of (s2 _ _ f1), rfl, _, _, rfl, _, _, rfl, rfl, rfl, ?_⟩⟩
      refine ⟨_, rfl, .inl ⟨rfl, _, SqL.of (s12 _ _ hms)⟩, ?_⟩
      refine ⟨_, rfl, _, rfl, _, rfl, ⟨_, SqL.of (Same.ways s2 f3)⟩, fun D hD => ?_⟩
      refine lc_map (walk_listWs (K := K) (a := p2) (ws := F[i].2)) hD (by have := (hin _ (mem_of hFi)).1; omega) (fun H3 s3 => Same.ways (s2.trans s3) f3) (fun j => .int (wayInt cs (F[i].2[j]?).join)) ?_ ?_
      · rintro j x H3 H4 kk hj s3 ⟨y, hy, rfl, rfl⟩ hk
        have hk' := hk H4 (Same.refl H4)
        rw [hy] at hk'
        refine ⟨rfl, _, rfl, rfl, _, rfl, ?_⟩
        rw [vW_is]
        cases y with
        | none => exact iteT ⟨1, rfl, hk'⟩
        | some n =>
          have hn : n < cs.length := by rw [hlen]; exact (hin _ (mem_of hFi)).2 n (List.mem_of_getElem? hy)
          have hcn : cs[n]? = some cs[n] := List.getElem?_eq_getElem hn
          refine iteF ⟨_, rfl, _, rfl, _, _, _, _, rfl, rfl, SqL.of (Same.ints (s2.trans s3) hc), atI_nat (ints_get hcn), ?_⟩
          have e3 : wayInt cs (some n) = ((cs[n] : Nat) : Int) := by
            show ((cs.getD n 0 : Nat) : Int) = _
            rw [List.getD_eq_getElem?_getD, hcn]
            rfl
          rw [← e3]
          exact hk'
      · intro H3 s3 hD3
        rw [range_map_get _ F[i].2 (fun w => .int (wayInt cs w)) (fun j x hx => by rw [hx]; rfl)] at hD3
        refine ⟨D, _, rfl, .inl ⟨SqL.of hD3, fun q hq => ?_⟩⟩
        refine ⟨by show 2 ≤ sizeLine; decide, fun r hr' => ?_⟩
        have s4 : Same (upd H1 tp (.tup [.int ((cs[i]'(by omega) : Nat) : Int), .ref t])) (upd (upd H3 q (.tup (F[i].2.map fun w => V.int (wayInt cs w)))) r (.tup [.int ((cs[i]'(by omega) : Nat) : Int), .ref q])) := Same.new (Same.new s3 hq) hr'
        have s5 := s12.trans s4
        have hl5 := s5 _ _ hms
        refine ⟨l, _, _, rfl, rfl, hl5, sz_lt ?_, ?_⟩
        · rw [List.length_map, Paired.length hpm, List.length_take]
          omega
        · refine ⟨_, _, _, rfl, Same.mut (s1.trans s5) hl, ms ++ [r], ?_, ?_⟩
          · rw [upd_same, List.map_append]
            rfl
          · have hpk : (partKeys cs F)[i]? = some (partKey cs (cs[i]'(by omega), F[i])) := by
              have ez : (cs.zip F)[i]? = some (cs[i]'(by omega), F[i]) := by
                rw [List.getElem?_zip_eq_some]
                exact ⟨hci, hFi⟩
              unfold partKeys
              rw [List.getElem?_map, ez]
              rfl
            rw [List.take_succ, hpk]
            have tk : ∀ c xs, H1 c = some (.tup xs) → (upd (upd (upd H3 q (.tup (F[i].2.map fun w => V.int (wayInt cs w)))) r (.tup [.int ((cs[i]'(by omega) : Nat) : Int), .ref q])) l (.lst (ms.map V.ref ++ [V.ref r]))) c = some (.tup xs) := fun c xs e =>
              (upd_ne (ne_of e hms (fun z => nomatch z))).trans (s5 _ _ e)
            refine Paired.snoc (L2.Paired.mapP hpm fun b k z => ⟨z.1.to tk, z.2⟩) ⟨?_, ?_⟩
            · have qr : (upd (upd (upd H3 q (.tup (F[i].2.map fun w => V.int (wayInt cs w)))) r (.tup [.int ((cs[i]'(by omega) : Nat) : Int), .ref q])) l (.lst (ms.map V.ref ++ [V.ref r]))) r = some (.tup [.int ((cs[i]'(by omega) : Nat) : Int), .ref q]) :=
                (upd_ne (ne_of upd_same hl5 (fun z => nomatch z))).trans upd_same
              have qq : (upd (upd (upd H3 q (.tup (F[i].2.map fun w => V.int (wayInt cs w)))) r (.tup [.int ((cs[i]'(by omega) : Nat) : Int), .ref q])) l (.lst (ms.map V.ref ++ [V.ref r]))) q = some (.tup (F[i].2.map fun w => V.int (wayInt cs w))) := by
                have z1 : (upd (upd H3 q (.tup (F[i].2.map fun w => V.int (wayInt cs w)))) r (.tup [.int ((cs[i]'(by omega) : Nat) : Int), .ref q])) q = some (.tup (F[i].2.map fun w => V.int (wayInt cs w))) := (upd_ne (ne_of_none upd_same hr')).trans upd_same
                exact (upd_ne (ne_of z1 hl5 (fun z => nomatch z))).trans z1
              refine .tup qr (.cons (.num _) (.cons (.tup qq ?_) .nil))
              have e9 : F[i].2.map (wayNum cs) = F[i].2.map fun w => NestedKey.num (wayInt cs w) := List.map_congr_left fun w _ => wayNum_eq cs w
              rw [e9]
              exact nvs_ints _ _
            · show NestedKey.depth (.tup [.num _, .tup (F[i].2.map (wayNum cs))]) ≤ 8
              have e9 : F[i].2.map (wayNum cs) = F[i].2.map fun w => NestedKey.num (wayInt cs w) := List.map_congr_left fun w _ => wayNum_eq cs w
              rw [e9]
              simp [NestedKey.depth, NestedKey.depthAll, depthAll_num]
    · rintro σ H1 ⟨v3, v4, v5, rfl, s1, hm⟩
      rw [List.take_of_length_le (by rw [partKeys_len hlen]; exact Nat.le_refl _)] at hm
      exact ⟨_, rfl, l, _, rfl, hm, by rw [partKeys_len hlen]; omega, fun p H' s' np hp => k p H' (s1.trans s') (s1.free np) hp⟩

theorem nvs_texts {H : Hp} : ∀ l : List Str, QD.NVs H (l.map NestedKey.text) (l.map V.str)
  | [] => .nil
  | _ :: l => .cons (.text _) (nvs_texts l)
theorem depthAll_text : ∀ l : List Str, NestedKey.depthAll (l.map NestedKey.text) = 0
  | [] => rfl
  | _ :: l => by
    show max (NestedKey.depth (.text _)) (NestedKey.depthAll _) = 0
    rw [depthAll_text l]
    rfl
theorem max_run {H : Hp} {a : Addr} {cs : List Nat} {Q : VK} (h : IntsAt H a cs) (hp : 0 < cs.length) (q : Q (.int (maxOf cs : Int)) H) : rMax K [.ref a] H Q := by
  refine ⟨a, cs.map fun (n : Nat) => (n : Int), rfl, SqL.of (by rw [List.map_map]; exact h), by rw [List.length_map]; exact hp, fun m hm hle => ?_⟩
  obtain ⟨x, hx, rfl⟩ := List.mem_map.mp hm
  have e : maxOf cs = x := maxOf_eq hx fun y hy => by
    have := hle (y : Int) (List.mem_map.mpr ⟨y, hy, rfl⟩)
    omega
  rw [e] at q
  exact q
def spAlike : Sp := fun vs H Q _ => ∃ (b : Addr) (F : Form), vs = [.ref b] ∧ FormAt H b F ∧ 0 < F.length ∧ F.length ≤ 5000 ∧ WaysIn F ∧ (∀ s ∈ F, s.1.length ≤ 10000) ∧ ∀ (p : Addr) (H' : Hp), Same H H' → H p = none → IntsAt H' p (alike F) → Q (.ref p) H'
theorem ok_alike_classes (X : TX K mg) : FnOk P w K mg base CX0 3 X.d_alike_classes.a X.d_alike_classes.fd ["standings"] spAlike := by
  have nd := sc_alike_classes.nd
  refine X.d_alike_classes.F.ok sc_alike_classes (fun vs H Q E h => ?_) (fun cdv A outer s H vs Q E hr h => ?_)
  · obtain ⟨b, F, rfl, _⟩ := h
    rfl
  · obtain ⟨b, F, rfl, hF, hp, hz, hin, hw, k⟩ := h
    refine ⟨_, (pss_cons (ps_set (i := 1) nd rfl (Or.inl rfl) (pe_call (ok_numbered X) (hr.mono (by decide)) rfl X.d_numbered.mg X.d_numbered.F.kp X.d_numbered.b .nil pass0 (pa_cons (pe_lc (own := [("word", 3), ("_", 4)]) (g := gTup K 2 (gCons (gName 3) (gCons (gName 4) (gNil)))) (tt := tYes) rfl nd (QB.pi_listK K (pv 0)) (blkOk_by (N := ["standings", "classes", "many", "word", "_"]) (sc := defScope s_alike_classes) (by decide +kernel)) (fun _ _ _ _ _ => pg_tup (by rfl) (pgs_cons (pg_name (i := 3) nd rfl (Or.inl rfl)) (pgs_cons (pg_name (i := 4) nd rfl (Or.inl rfl)) (pgs_nil)))) (fun _ _ _ _ _ => pts_nil) (fun _ _ _ _ _ => (pe_callTy (QB.call_tupleK K) (by rfl) X.n_tuple QB.bo_tuple (pa_cons (pv 3) pa_nil)))) pa_nil))) (pss_cons (ps_set (i := 2) nd rfl (Or.inl rfl) pe_int) (pss_cons (ps_while PassesOwn.never (pt_cmpR op_le (pv 2) (pe_callB (QB.cr_maxK K rfl) (by rfl) X.n_max QB.bo_max (pa_cons (pv 1) pa_nil)) (nomark _)) (pss_cons (ps_set (i := 2) nd rfl (Or.inl rfl) (pe_op op_add (pe_callB (QB.cr_maxK K rfl) (by rfl) X.n_max QB.bo_max (pa_cons (pv 1) pa_nil)) pe_int)) (pss_one (ps_set (i := 1) nd rfl (Or.inl rfl) (pe_call (ok_parted X) (hr.mono (by decide)) rfl X.d_parted.mg X.d_parted.F.kp X.d_parted.b .nil pass0 (pa_cons (pv 1) (pa_cons (pv 0) pa_nil))))))) (pss_one (ps_ret (pv 1)))))), ?_⟩
    try dsimp only [Cx.nox, Cx.wish, cxOf]
    obtain ⟨vs, hv, hvl⟩ := FormAt.lst hF
    refine ⟨_, rfl, _, rfl, ⟨_, SqL.of hv⟩, fun D hD => ?_⟩
    refine lc_it (walk_listF (K := K) (p := b) (F := F)) (fun i H' => Same H H' ∧ MarksAt H' D (wordKeys (F.take i)))
      ⟨same_new hD, [], upd_same, .nil⟩ (fun i H' _ h => Same.form h.1 hF) ?_ ?_
    · rintro i x H1 H2 hi ⟨s1, ms, hms, hpm⟩ ⟨s, t, a, b', hs, rfl, rfl, h1, h2, h3⟩
      refine ⟨t, _, rfl, SqT.of h1, rfl, _, _, rfl, _, _, rfl, rfl, rfl, ?_⟩
      refine ⟨_, rfl, _, _, rfl, .inl ⟨SqL.of h2, fun q hq => ?_⟩⟩
      have e1 : Same H2 (upd H2 q (.tup (vS s.1))) := same_new hq
      have hml := Paired.length hpm
      unfold wordKeys at hml
      rw [List.length_map, List.length_take] at hml
      refine ⟨_, e1 _ _ hms, sz_lt (by rw [List.length_map]; omega), Same.mut (s1.trans e1) hD, ms ++ [q], ?_, ?_⟩
      · rw [upd_same, List.map_append]
        rfl
      · have tk : ∀ c xs, H2 c = some (.tup xs) → (upd (upd H2 q (.tup (vS s.1))) D (.lst (ms.map V.ref ++ [V.ref q]))) c = some (.tup xs) := fun c xs e =>
          (upd_ne (ne_of e hms (fun z => nomatch z))).trans (e1 _ _ e)
        have hs' : F.take (i + 1) = F.take i ++ [s] := by rw [List.take_succ, hs]; rfl
        unfold wordKeys at hpm ⊢
        rw [hs', List.map_append]
        refine Paired.snoc (L2.Paired.mapP hpm fun b k z => ⟨z.1.to tk, z.2⟩) ⟨.tup (vs := vS s.1) ((upd_ne (ne_of upd_same (e1 _ _ hms) (fun z => nomatch z))).trans upd_same) (nvs_texts _), ?_⟩
        show NestedKey.depth (.tup (s.1.map .text)) ≤ 8
        simp [NestedKey.depth, depthAll_text]
    · rintro H1 ⟨s1, hm⟩
      rw [List.take_length] at hm
      refine ⟨D, _, rfl, hm, by unfold wordKeys; rw [List.length_map]; omega, fun l H2 s2 nl hl => ?_⟩
      refine ⟨fun m σ H' => ∃ (c : Addr) (many : Nat) (cs : List Nat) (v3 v4 : Option V), σ = [some (.ref b), some (.ref c), some (.int (many : Int)), v3, v4] ∧ Same H H' ∧ H c = none ∧ IntsAt H' c cs ∧ cs.length = F.length ∧ (∀ x ∈ cs, x < F.length) ∧ m = F.length + 1 - many ∧
        many ≤ F.length ∧ ∃ f, F.length + 1 ≤ f + many ∧ alikeLoop F f many cs = alike F, ⟨_, l, 0, _, none, none, rfl, s1.trans s2, s1.free nl, hl, by rw [QD.numb_len]; exact List.length_map _, fun x hx => ?_, rfl, Nat.zero_le _, _, Nat.le_refl _, rfl⟩, ?_⟩
      · have := numb_lt' hx
        unfold wordKeys at this
        rwa [List.length_map] at this
      · rintro m σ H3 ⟨c, many, cs, v3, v4, rfl, s3, nc, hc, hcl, hclt, rfl, hmany, f, hf, hloop⟩
        have hpos : 0 < cs.length := by omega
        have hmx : maxOf cs < F.length := by
          have := (maxOf_le cs 0 (F.length - 1)).mpr ⟨Nat.zero_le _, fun x hx => by have := hclt x hx; omega⟩
          unfold maxOf
          omega
        refine ⟨_, rfl, _, rfl, ?_⟩
        dsimp only [tNil]
        refine max_run hc hpos ?_
        refine ⟨_, _, rfl, rfl, _, rfl, ?_⟩
        cases f with
        | zero => omega
        | succ f =>
          unfold alikeLoop at hloop
          by_cases hle : many ≤ maxOf cs
          · rw [if_pos (decide_eq_true (by omega))]
            rw [if_pos hle] at hloop
            refine ⟨_, fun σ' H' h => h, ?_⟩
            refine ⟨_, rfl, ?_⟩
            dsimp only [tNil]
            refine max_run hc hpos ?_
            refine ⟨_, _, rfl, rfl, ?_⟩
            refine ⟨_, rfl, _, rfl, ?_⟩
            refine ⟨c, b, cs, F, rfl, hc, Same.form s3 hF, hcl, hz, hin, fun p H4 s4 np hp4 => ?_⟩
            refine ⟨_, ?_, p, maxOf cs + 1, _, v3, v4, rfl, s3.trans s4, s3.free np, hp4, part_len hcl, fun x hx => ?_, rfl, by omega, f, by omega, hloop⟩
            · omega
            · have := numb_lt' hx
              rwa [partKeys_len hcl] at this
          · rw [if_neg (by simp; omega)]
            rw [if_neg hle] at hloop
            rw [← hloop] at k
            exact ⟨_, rfl, k c H3 s3 nc hc⟩
end
end Law
end

section
set_option Elab.async false
set_option linter.all false
set_option maxRecDepth 100000
set_option maxHeartbeats 4000000
namespace Law
open PySem PySem.Spec PyProof.Rows L2 LamX QB QM
section
variable {P : Program} {w : World} {K : PySem.W.Frag} {mg : Str → Option Value} {base : Heap}
def keysOf (cs met : List Nat) : List L2.Key := met.map fun m => (Sum.inl ((clsOf cs m : Nat) : Int) : L2.Key)
theorem mem_keysOf {cs met : List Nat} {n : Nat} : (Sum.inl ((clsOf cs n : Nat) : Int) : L2.Key) ∈ keysOf cs met ↔ clsOf cs n ∈ met.map (clsOf cs) := by
  unfold keysOf
  rw [List.mem_map, List.mem_map]
  constructor
  · rintro ⟨m, hm, e⟩
    exact ⟨m, hm, by have := Sum.inl.inj e; omega⟩
  · rintro ⟨m, hm, e⟩
    exact ⟨m, hm, by rw [e]⟩
theorem idx_keysOf {cs : List Nat} {n : Nat} (met : List Nat) : (@List.idxOf L2.Key instBEqOfDecidableEq (Sum.inl ((clsOf cs n : Nat) : Int)) (keysOf cs met)) = (met.map (clsOf cs)).idxOf (clsOf cs n) := by
  have e := QD.idxOf_map_inj (κ := L2.Key) (fun c : Nat => Sum.inl (c : Int)) (fun a b h => by have := Sum.inl.inj h; omega) (clsOf cs n) (met.map (clsOf cs))
  rw [List.map_map] at e
  exact e
theorem clsOf_get {cs : List Nat} {n : Nat} (h : n < cs.length) : cs[n]? = some (clsOf cs n) := by
  unfold clsOf
  rw [List.getD_eq_getElem?_getD, List.getElem?_eq_getElem h]
  rfl
/-- one more way looked at -/
theorem keysOf_snoc (cs met : List Nat) (n : Nat) : keysOf cs (met ++ [n]) = keysOf cs met ++ [Sum.inl ((clsOf cs n : Nat) : Int)] := by
  unfold keysOf
  rw [List.map_append]
  rfl
theorem keysOf_len (cs met : List Nat) : (keysOf cs met).length = met.length := List.length_map _
/-- the word of the m-th standing of a form of one's own -/
def wAd (Lb : List Tri) (m : Nat) : Addr := ((Lb[m]?).map fun x => x.2.1).getD 0
theorem wAd_of {Lb : List Tri} {m : Nat} {x : Tri} (h : Lb[m]? = some x) : wAd Lb m = x.2.1 := by
  unfold wAd
  rw [h]
  rfl
theorem inner_cons (x : Tri) (L : List Tri) : inner (x :: L) = x.2.1 :: x.2.2 :: inner L := rfl
theorem wAd_mem {Lb : List Tri} {m : Nat} (h : m < Lb.length) : wAd Lb m ∈ inner Lb := by
  have e := List.getElem?_eq_getElem h
  rw [wAd_of e]
  exact List.mem_flatMap.mpr ⟨_, List.getElem_mem h, by simp⟩
theorem wAd_inj : ∀ {Lb : List Tri} {i j : Nat}, (inner Lb).Nodup → i < Lb.length → j < Lb.length → wAd Lb i = wAd Lb j → i = j
  | [], i, j, _, h, _, _ => absurd h (Nat.not_lt_zero _)
  | x :: Lb, 0, 0, _, _, _, _ => rfl
  | x :: Lb, 0, j + 1, nd, _, hj, e => by
    rw [inner_cons, List.nodup_cons] at nd
    have hm := wAd_mem (Lb := Lb) (m := j) (by simpa using hj)
    have e' : x.2.1 = wAd Lb j := e
    exact absurd (by rw [e']; exact List.mem_cons_of_mem _ hm) nd.1
  | x :: Lb, i + 1, 0, nd, hi, _, e => by
    rw [inner_cons, List.nodup_cons] at nd
    have hm := wAd_mem (Lb := Lb) (m := i) (by simpa using hi)
    have e' : wAd Lb i = x.2.1 := e
    exact absurd (by rw [← e']; exact List.mem_cons_of_mem _ hm) nd.1
  | x :: Lb, i + 1, j + 1, nd, hi, hj, e => by
    rw [inner_cons, List.nodup_cons, List.nodup_cons] at nd
    have e' : wAd Lb i = wAd Lb j := e
    rw [wAd_inj nd.2.2 (by simpa using hi) (by simpa using hj) e']
/-- one more standing, with a word that stood already -/
theorem newL_snoc {H0 H H' : Hp} {L : List Tri} {F : Form} {t a b : Addr} {s : Std} (n : NewL H0 H L F) (e : Same H H') (ha : a ∉ inner L) (hb : H b = none) (hab : a ≠ b) (h1 : H' t = some (.tup [.ref a, .ref b])) (h2 : WordAt H' a s.1) (h3 : WaysAt H' b s.2) (f1 : Fresh H0 t) (f2 : Fresh H0 a) (f3 : Fresh H0 b) :
    NewL H0 H' (L ++ [(t, a, b)]) (F ++ [s]) := by
  have hap : ∀ x ∈ inner L, ∀ y ∈ inner [(t, a, b)], x ≠ y := by
    intro x hx y hy z
    subst z
    rcases List.mem_cons.mp hy with hy | hy
    · rw [hy] at hx
      exact ha hx
    · rw [List.mem_singleton.mp hy] at hx
      obtain ⟨xs, hxs⟩ := n.there hx
      rw [hb] at hxs
      cases hxs
  have hone : (inner [(t, a, b)]).Nodup := by
    show [a, b].Nodup
    simp [hab]
  have hnd : (inner L ++ inner [(t, a, b)]).Nodup := List.nodup_append.mpr ⟨n.nd, hone, hap⟩
  refine ⟨Paired.snoc (n.same e).at_ ⟨h1, h2, h3⟩, fun x hx => ?_, by rw [inner_append]; exact hnd⟩
  rcases List.mem_append.mp hx with hx | hx
  · exact n.new x hx
  · rw [List.mem_singleton.mp hx]
    exact ⟨f1, f2, f3⟩
/-- where the words of what is told stand -/
structure Told (H : Hp) (Lb : List Tri) (met : List Nat) (L : List Tri) : Prop where
  words : L.map (fun x => x.2.1) = (met.take L.length).map (wAd Lb)
  ways : ∀ x ∈ L, H x.2.2 = none
theorem Told.out {H : Hp} {Lb : List Tri} {met : List Nat} {L : List Tri} {F : Form} {cs : List Nat} (T : Told H Lb met L) (nd : (inner Lb).Nodup) (hl : Lb.length = F.length) (M : Met F cs met) {k m : Nat} (hk : L.length = k) (hm : met[k]? = some m) {u : HO} (hu : H (wAd Lb m) = some u) : wAd Lb m ∉ inner L := fun h => by
  obtain ⟨x, hx, hq⟩ := mem_inner h
  rcases hq with hq | hq
  · have h1 : x.2.1 ∈ L.map (fun x => x.2.1) := List.mem_map.mpr ⟨x, hx, rfl⟩
    rw [T.words] at h1
    obtain ⟨m', h2, h3⟩ := List.mem_map.mp h1
    obtain ⟨j, hj, e⟩ := List.mem_iff_getElem.mp h2
    rw [List.length_take] at hj
    rw [List.getElem_take] at e
    have hjm : j < met.length := by omega
    have e2 : met[j]? = some m' := by rw [List.getElem?_eq_getElem hjm, e]
    have l1 := M.lt m (List.mem_of_getElem? hm)
    have l2 := M.lt m' (List.mem_of_getElem? e2)
    have e3 := wAd_inj nd (by omega) (by omega) (h3.trans hq.symm)
    subst e3
    have nm : met.Nodup := (List.pairwise_map.mp M.nd).imp fun h e => h (congrArg _ e)
    have := nd_ix nm e2 hm
    omega
  · rw [hq, T.ways x hx] at hu
    cases hu
theorem Told.snoc {H : Hp} {Lb : List Tri} {met m6 tl : List Nat} {L : List Tri} {k m : Nat} {t b : Addr} (T : Told H Lb met L) (hk : L.length = k) (hm : met[k]? = some m) (h6 : m6 = met ++ tl) (hb : H b = none) : Told H Lb m6 (L ++ [(t, wAd Lb m, b)]) := by
  subst hk
  have hlt : L.length < met.length := (List.getElem?_eq_some_iff.mp hm).1
  refine ⟨?_, fun x hx => ?_⟩
  · rw [List.map_append, T.words, h6, List.length_append, List.length_singleton, List.take_append_of_le_length (by omega), List.take_succ, hm, List.map_append]
    rfl
  · rcases List.mem_append.mp hx with hx | hx
    · exact T.ways x hx
    · rw [List.mem_singleton.mp hx]
      exact hb
def spInOrder : Sp := fun vs H Q _ => ∃ (b a : Addr) (F : Form) (cs : List Nat) (H0 : Hp) (Lb : List Tri), vs = [.ref b, .ref a] ∧ NewF H0 H b Lb F ∧ (∀ q, H q = none → Fresh H0 q) ∧ IntsAt H a cs ∧ cs.length = F.length ∧ 0 < F.length ∧ F.length ≤ 5000 ∧ WaysIn F ∧
  ∀ (p : Addr) (L : List Tri) (H' : Hp), Same H H' → NewF H0 H' p L (inOrder F cs) → Q (.ref p) H'
theorem ok_in_order_met (X : TX K mg) : FnOk P w K mg base CX0 1 X.d_in_order_met.a X.d_in_order_met.fd ["standings", "classes"] spInOrder := by
  have nd := sc_in_order_met.nd
  refine X.d_in_order_met.F.ok sc_in_order_met (fun vs H Q E h => ?_) (fun cdv A outer s H vs Q E hr h => ?_)
  · obtain ⟨b, a, F, cs, H0, Lb, rfl, _⟩ := h
    rfl
  · obtain ⟨b, a, F, cs, H0, Lb, rfl, nF, fr0, hc, hlen, hp, hz, hin, k⟩ := h
    refine ⟨_, (pss_cons (ps_set (i := 2) nd rfl (Or.inr rfl) (pe_disp (pps_cons (pe_ix (QB.ix_listK K) (pv 1) pe_int (fun _ _ => rfl)) pe_int pps_nil) (by rfl) (by rfl) (fun z => by cases z) (by decide))) (pss_cons (ps_set (i := 3) nd rfl (Or.inl rfl) (pe_lst (pa_cons pe_int pa_nil))) (pss_cons (ps_set (i := 4) nd rfl (Or.inl rfl) (pe_lst pa_nil)) (pss_cons (ps_while PassesOwn.never (pt_cmpR op_lt (pe_callB (QB.call_lenK K) (by rfl) X.n_len PySem.boot_len (pa_cons (pv 4) pa_nil)) (pe_callB (QB.call_lenK K) (by rfl) X.n_len PySem.boot_len (pa_cons (pv 3) pa_nil)) (nomark _)) (pss_cons (ps_asg (pe_ix (QB.ix_listK K) (pv 0) (pe_ix (QB.ix_listK K) (pv 3) (pe_callB (QB.call_lenK K) (by rfl) X.n_len PySem.boot_len (pa_cons (pv 4) pa_nil)) (fun _ _ => rfl)) (fun _ _ => rfl)) (pg_tup (by rfl) (pgs_cons (pg_name (i := 5) nd rfl (Or.inl rfl)) (pgs_cons (pg_name (i := 6) nd rfl (Or.inl rfl)) (pgs_nil))))) (pss_cons (ps_for PassesOwn.never rfl (QB.pi_listK K (pv 6)) (pg_name (i := 7) nd rfl (Or.inl rfl)) (pss_one (ps_if (PW.pt (pw_and (pt_cmpR op_notN (pv 7) pe_non (nomark _)) (pw_and1 (pt_cmp (pc_dnotin (hu_of hr) (pe_ix (QB.ix_listK K) (pv 1) (pv 7) (fun _ _ => rfl)) (pv 2)))))) (pss_cons (ps_dput (hu_of hr) (pv 2) (pe_ix (QB.ix_listK K) (pv 1) (pv 7) (fun _ _ => rfl)) (pe_callB (QB.call_lenK K) (by rfl) X.n_len PySem.boot_len (pa_cons (pv 3) pa_nil)) rfl) (pss_one (ps_expr (QB.pe_bmK K PySem.F.plainAttrs_list PySem.F.slot_list_append PySem.F.type_list_append mt_append (pv 3) (pa_cons (pv 7) pa_nil))))) pss_nil))) (pss_one (ps_expr (QB.pe_bmK K PySem.F.plainAttrs_list PySem.F.slot_list_append PySem.F.type_list_append mt_append (pv 4) (pa_cons (pe_tup (pa_cons (pv 5) (pa_cons (pe_lc (own := [("way", 7)]) (g := gName 7) (tt := tYes) rfl nd (QB.pi_listK K (pv 6)) (blkOk_by (N := ["standings", "classes", "numbers", "met", "told", "beside", "ways", "way"]) (sc := defScope s_in_order_met) (by decide +kernel)) (fun _ _ _ _ _ => pg_name (i := 7) nd rfl (Or.inl rfl)) (fun _ _ _ _ _ => pts_nil) (fun _ _ _ _ _ => (pe_ifExp (pt_cmpR op_isN (pv 7) pe_non (nomark _)) pe_non (pe_dget (hu_of hr) (pv 2) (pe_ix (QB.ix_listK K) (pv 1) (pv 7) (fun _ _ => rfl)) (fun _ _ => rfl))))) pa_nil))) pa_nil))))))) (pss_one (ps_ret (pv 4))))))), ?_⟩
    try dsimp only [Cx.nox, Cx.wish, cxOf]
    have hF := nF.form
    have hLb := nF.all.len
    refine fun d hd => ?_
    have s1 : Same H (upd H d (.dK [])) := same_new hd
    refine ⟨_, rfl, _, _, _, _, rfl, rfl, SqL.of (Same.ints s1 hc), atI_nat (j := 0) (ints_get (clsOf_get (by omega))), upd_same, [(Sum.inl ((clsOf cs 0 : Nat) : Int), .int 0)], rfl, by show 1 ≤ 15; decide, ?_⟩
    rw [upd_upd]
    have s2 : Same H (upd H d (.dK (L2.mergeK [] [(Sum.inl ((clsOf cs 0 : Nat) : Int), .int 0)]))) := same_new hd
    refine ⟨by show 1 ≤ sizeLine; decide, fun l hl => ?_⟩
    have s3 := Same.new s2 (o := .lst [V.int 0]) hl
    refine ⟨Nat.zero_le _, fun t ht => ?_⟩
    have s4 := Same.new s3 (o := .lst []) ht
    have ndl : d ≠ l := ne_of_none upd_same hl
    have nlt : l ≠ t := ne_of_none upd_same ht
    have ndt : d ≠ t := ne_of_none ((upd_ne ndl).trans upd_same) ht
    refine ⟨fun m σ H' => ∃ (met : List Nat) (told : Form) (L : List Tri) (v5 v6 v7 : Option V), σ = [some (.ref b), some (.ref a), some (.ref d), some (.ref l), some (.ref t), v5, v6, v7] ∧ Same H H' ∧ H' d = some (.dK (QD.dictFrom 0 (keysOf cs met))) ∧ IntsAt H' l met ∧
      H' t = some (.lst (L.map fun x => V.ref x.1)) ∧ NewL H0 H' L told ∧ Told H Lb met L ∧ t ∉ inner L ∧ l ∉ inner L ∧ Met F cs met ∧ told.length ≤ met.length ∧ m = F.length - told.length ∧ ∃ f, F.length + 1 ≤ f + told.length ∧ orderLoop F cs f met told = inOrder F cs,
      ⟨_, [0], [], [], none, none, none, rfl, s4, ?_, ?_, upd_same, NewL.nil, ⟨rfl, fun _ h => nomatch h⟩, by simp [inner], by simp [inner], ⟨by simp, fun m hm => ?_⟩, by simp, rfl, _, Nat.le_refl _, rfl⟩, ?_⟩
    · rw [upd_ne ndt, upd_ne ndl, upd_same]
      rfl
    · exact (upd_ne nlt).trans upd_same
    · rw [List.mem_singleton.mp hm]
      exact hp
    · have d0 := hd
      have l0 : H l = none := s2.free hl
      have t0 : H t = none := s3.free ht
      rintro m σ H1 ⟨met, told, L, v5, v6, v7, rfl, s5, hD, hM, hT, nL, tl_, oT, oL, met_, htm, rfl, f, hf, hloop⟩
      have hLl := nL.len
      have hml := met_.len
      refine ⟨_, rfl, _, _, rfl, .inl (SqL.of hT), _, rfl, _, _, rfl, .inl (SqL.of hM), _, _, rfl, rfl, _, rfl, ?_⟩
      rw [List.length_map, List.length_map, hLl]
      cases f with
      | zero => omega
      | succ f =>
        unfold orderLoop at hloop
        by_cases hlt : told.length < met.length
        · rw [if_pos (decide_eq_true (by omega))]
          rw [if_pos hlt] at hloop
          refine ⟨_, fun σ' H' h => h, ?_⟩
          have hmt : met[told.length]? = some (met.getD told.length 0) := by
            rw [List.getD_eq_getElem?_getD, List.getElem?_eq_getElem hlt]
            rfl
          have hmF : met.getD told.length 0 < F.length := met_.lt _ (List.mem_of_getElem? hmt)
          generalize met.getD told.length 0 = mm at hloop hmt hmF
          have hFm := stdOf_get hmF
          generalize stdOf F mm = sd at hloop hFm
          have hsin := hin sd (mem_of hFm)
          obtain ⟨xb, hxb, f4, f5, f6⟩ := nF.all.get hFm
          have f1 := nF.lst
          have f3 : (Lb.map fun x => V.ref x.1)[mm]? = some (.ref xb.1) := by rw [List.getElem?_map, hxb]; rfl
          have ew := wAd_of hxb
          have fw : Fresh H0 xb.2.1 := (nF.all.new xb (List.mem_of_getElem? hxb)).2.1
          have ow := Told.out tl_ nF.all.nd hLb met_ hLl hmt (u := .lst (vS sd.1)) (by rw [ew]; exact f5)
          rw [ew] at ow
          obtain ⟨tt, p1, p2⟩ := xb
          have f3 : (Lb.map fun x => V.ref x.1)[mm]? = some (.ref tt) := f3
          have f4 : H tt = some (.tup [.ref p1, .ref p2]) := f4
          have f5 : WordAt H p1 sd.1 := f5
          have f6 : WaysAt H p2 sd.2 := f6
          have ow : p1 ∉ inner L := ow
          have fw : Fresh H0 p1 := fw
          have ew : wAd Lb mm = p1 := ew
          -- word, ways = standings[met[len(told)]]
          refine ⟨_, rfl, _, rfl, _, rfl, _, _, rfl, .inl (SqL.of hT), ?_⟩
          rw [List.length_map, hLl]
          refine ⟨_, _, _, _, rfl, rfl, SqL.of hM, atI_nat (ints_get hmt), _, _, _, _, rfl, rfl, SqL.of (s5 _ _ f1), atI_nat f3, ?_⟩
          refine ⟨tt, _, rfl, SqT.of (s5 _ _ f4), rfl, _, _, rfl, _, _, rfl, rfl, ?_⟩
          -- for way in ways
          refine ⟨_, rfl, _, rfl, ⟨_, SqL.of (Same.ways s5 f6)⟩, ?_⟩
          refine for_it (walk_listWs (K := K) (a := p2) (ws := sd.2)) (fun i σ H' => ∃ (v7 : Option V), σ = [some (.ref b), some (.ref a), some (.ref d), some (.ref l), some (.ref t), some (.ref p1), some (.ref p2), v7] ∧ Same H H' ∧ H' d = some (.dK (QD.dictFrom 0 (keysOf cs (visitAll cs met (sd.2.take i))))) ∧
            IntsAt H' l (visitAll cs met (sd.2.take i)) ∧ H' t = some (.lst (L.map fun x => V.ref x.1)) ∧ NewL H0 H' L told) ⟨_, rfl, s5, hD, hM, hT, nL⟩ (fun i σ H' _ ⟨_, _, s6, _⟩ => Same.ways s6 f6) ?_ ?_
          · rintro i x σ H2 H3 hi ⟨v7, rfl, s6, hD6, hM6, hT6, nL6⟩ ⟨y, hy, rfl, rfl⟩
            have htk : sd.2.take (i + 1) = sd.2.take i ++ [y] := by rw [List.take_succ, hy]; rfl
            have hyF : ∀ n, y = some n → n < F.length := fun n e => hsin.2 n (by rw [← e]; exact List.mem_of_getElem? hy)
            have metI : Met F cs (visitAll cs met (sd.2.take i)) := met_.visitAll fun n hn => hsin.2 n (List.mem_of_mem_take hn)
            have hvs : visitAll cs met (sd.2.take (i + 1)) = visit cs (visitAll cs met (sd.2.take i)) y := by
              rw [htk]
              unfold visitAll
              rw [List.foldl_append]
              rfl
            generalize visitAll cs met (sd.2.take i) = mi at hD6 hM6 metI hvs
            have hmi := metI.len
            refine ⟨_, rfl, rfl, _, rfl, ?_⟩
            rw [vW_is]
            cases y with
            | none =>
              refine iteF ?_
              refine ⟨_, rfl, s6, ?_, ?_, hT6, nL6⟩
              · rw [hvs]
                exact hD6
              · rw [hvs]
                exact hM6
            | some n =>
              have hn := hyF n rfl
              have hcn := ints_get (clsOf_get (cs := cs) (n := n) (by omega))
              refine iteT ?_
              refine ⟨_, rfl, _, rfl, _, _, _, _, rfl, rfl, SqL.of (Same.ints s6 hc), atI_nat hcn, _, rfl, d, _, rfl, DGet.k (k := Sum.inl ((clsOf cs n : Nat) : Int)) hD6, _, rfl, ?_⟩
              rw [QD.valV_dictFrom]
              by_cases hmem : clsOf cs n ∈ mi.map (clsOf cs)
              · rw [if_pos (mem_keysOf.mpr hmem)]
                refine ⟨_, rfl, s6, ?_, ?_, hT6, nL6⟩
                · rw [hvs]
                  simp only [visit, if_pos hmem]
                  exact hD6
                · rw [hvs]
                  simp only [visit, if_pos hmem]
                  exact hM6
              · rw [if_neg (fun z => hmem (mem_keysOf.mp z))]
                have hnd := metI.visit (w := some n) hyF
                have hvn : visit cs mi (some n) = mi ++ [n] := by simp only [visit, if_neg hmem]
                refine ⟨_, rfl, _, _, rfl, .inl (SqL.of hM6), ?_⟩
                refine ⟨_, rfl, _, rfl, _, rfl, _, _, _, _, rfl, rfl, SqL.of (Same.ints s6 hc), atI_nat hcn, d, _, rfl, DPut.k (k := Sum.inl ((clsOf cs n : Nat) : Int)) hD6 (sz_lt (by rw [QD.dictFrom_len, keysOf_len]; omega)), ?_⟩
                have s7 := Same.mut (p := d) (o := .dK (putK (QD.dictFrom 0 (keysOf cs mi)) (Sum.inl ((clsOf cs n : Nat) : Int)) (.int ((mi.map fun (n : Nat) => V.int (n : Int)).length : Nat)))) s6 d0
                have hM7 := (upd_ne (a := d) (o := .dK (putK (QD.dictFrom 0 (keysOf cs mi)) (Sum.inl ((clsOf cs n : Nat) : Int)) (.int ((mi.map fun (n : Nat) => V.int (n : Int)).length : Nat)))) (ne_of hM6 hD6 (fun z => nomatch z))).trans hM6
                refine ⟨_, rfl, .inl ⟨rfl, _, SqL.of hM7⟩, _, rfl, l, _, _, rfl, rfl, hM7, sz_lt (by rw [List.length_map]; omega), ?_⟩
                refine ⟨_, rfl, Same.mut s7 l0, ?_, ?_, ?_, ?_⟩
                · rw [upd_ne (ne_of hD6 hM6 (fun z => nomatch z)), upd_same, hvs, hvn, keysOf_snoc, List.length_map]
                  have e := QD.putK_dictFrom (n := 0) (l := keysOf cs mi) (k := (Sum.inl ((clsOf cs n : Nat) : Int) : L2.Key)) (fun z => hmem (mem_keysOf.mp z))
                  rw [Nat.zero_add, keysOf_len] at e
                  rw [e]
                · rw [hvs, hvn]
                  unfold IntsAt
                  rw [upd_same, List.map_append]
                  rfl
                · exact (upd_ne nlt.symm).trans ((upd_ne ndt.symm).trans hT6)
                · exact NewL.upd (nL6.updD hD6) hM7 oL
          · rintro σ H2 ⟨v7, rfl, s6, hD6, hM6, hT6, nL6⟩
            rw [List.take_length] at hD6 hM6
            have met6 : Met F cs (visitAll cs met sd.2) := met_.visitAll fun n hn => hsin.2 n hn
            have hhas := fun n hn => visitAll_has cs sd.2 met n hn
            have hpre := visitAll_pre cs sd.2 met
            generalize visitAll cs met sd.2 = m6 at hD6 hM6 met6 hhas hpre hloop
            have hm6 := met6.len
            have hwf := f5
            -- told.append((list(word), [..]))
            refine ⟨_, rfl, .inl ⟨rfl, _, SqL.of hT6⟩, ?_⟩
            refine ⟨_, rfl, _, rfl, _, rfl, ⟨_, SqL.of (Same.ways s6 f6)⟩, fun q2 hq2 => ?_⟩
            refine lc_map (walk_listWs (K := K) (a := p2) (ws := sd.2)) hq2 (by have := hsin.1; omega) (fun H3 s8 => Same.ways (s6.trans s8) f6) (fun j => vW (newWay cs m6 (sd.2[j]?).join)) ?_ ?_
            · rintro j x H3 H4 kk hj s8 ⟨y, hy, rfl, rfl⟩ hk
              have hk' := hk H4 (Same.refl H4)
              rw [hy] at hk'
              refine ⟨rfl, _, rfl, rfl, _, rfl, ?_⟩
              rw [vW_is]
              cases y with
              | none => exact iteT hk'
              | some n =>
                have hns := List.mem_of_getElem? hy
                have hn := hsin.2 n hns
                refine iteF ⟨_, rfl, _, rfl, _, rfl, _, _, _, _, rfl, rfl, SqL.of (Same.ints (s6.trans s8) hc), atI_nat (ints_get (clsOf_get (by omega))), d, _, rfl, (by
                  have e := DGet.k (k := (Sum.inl ((clsOf cs n : Nat) : Int) : L2.Key)) (s8 _ _ hD6)
                  rw [QD.valV_dictFrom, if_pos (mem_keysOf.mpr (hhas n hns)), idx_keysOf, Nat.zero_add] at e
                  exact e), hk'⟩
            · intro H3 s8 hq3
              rw [range_map_get _ sd.2 (fun w => vW (newWay cs m6 w)) (fun j x hx => by rw [hx]; rfl)] at hq3
              refine ⟨by show 2 ≤ sizeLine; decide, fun q3 hq3' => ?_⟩
              have s9 := Same.new s8 (o := .tup [V.ref p1, V.ref q2]) hq3'
              have s10 := s6.trans s9
              have n2 : H2 q2 = none := hq2
              have n3 : H2 q3 = none := s8.free hq3'
              have n2' : H q2 = none := s6.free n2
              have e1 : WordAt (upd H3 q3 (.tup [V.ref p1, V.ref q2])) p1 sd.1 := Same.word s10 f5
              have e2 : (upd H3 q3 (.tup [V.ref p1, V.ref q2])) q2 = some (.lst (vWs (newStd cs m6 sd).2)) := by
                rw [upd_ne (ne_of_none hq3 hq3'), hq3]
                unfold vWs newStd
                rw [List.map_map]
                rfl
              have nq12 : p1 ≠ q2 := ne_of_none f5 n2'
              have nn := newL_snoc nL6 s9 ow n2 nq12 (t := q3) (s := newStd cs m6 sd) upd_same e1 e2 (fr0 _ (s6.free n3)) fw (fr0 _ n2')
              have oT' := not_inner_snoc (t := q3) oT (ne_of_none f5 t0).symm (ne_of_none hT6 n2)
              have oL' := not_inner_snoc (t := q3) oL (ne_of_none f5 l0).symm (ne_of_none hM6 n2)
              have hT9 := s9 _ _ hT6
              refine ⟨t, _, _, rfl, rfl, hT9, sz_lt (by rw [List.length_map]; omega), ?_⟩
              obtain ⟨tl, hpre⟩ := hpre
              have hlen6 : met.length ≤ m6.length := by rw [hpre, List.length_append]; omega
              refine ⟨_, ?_, m6, told ++ [newStd cs m6 sd], L ++ [(q3, p1, q2)], _, _, _, rfl, Same.mut s10 t0, ?_, ?_, ?_, nn.upd hT9 oT', by rw [← ew]; exact tl_.snoc hLl hmt hpre n2', oT', oL', met6, ?_, rfl, f, ?_, hloop⟩
              · rw [List.length_append, List.length_singleton]
                omega
              · exact (upd_ne ndt).trans (s9 _ _ hD6)
              · exact (upd_ne nlt).trans (s9 _ _ hM6)
              · rw [upd_same, List.map_append]
                rfl
              · rw [List.length_append, List.length_singleton]
                omega
              · rw [List.length_append, List.length_singleton]
                omega
        · rw [if_neg (by simp; omega)]
          rw [if_neg hlt] at hloop
          rw [← hloop] at k
          exact ⟨_, rfl, k t L H1 s5 ⟨hT, nL, fr0 _ t0, oT⟩⟩
end
end Law
end

section
set_option Elab.async false
set_option linter.all false
set_option maxRecDepth 100000
set_option maxHeartbeats 8000000
namespace Law
open PySem PySem.Spec PyProof.Rows L2 LamX QB QM
abbrev Tof {K : PySem.W.Frag} {mg : Str → Option Value} (X : TX K mg) : List (Addr × Str) := [(X.lam_P, ("without_needless_ways" : Str) ++ ".<locals>." ++ "<lambda>")]
section
variable {P : Program} {w : World} {K : PySem.W.Frag} {mg : Str → Option Value} {base : Heap}
theorem rep_flat (n : Nat) (x : V) : (List.replicate n [x]).flatten = List.replicate n x := by
  induction n with
  | zero => rfl
  | succ n ih => rw [List.replicate_succ, List.flatten_cons, ih, List.replicate_succ]; rfl
theorem ixN_of {n j : Nat} (h : j < n) : ixN n (j : Int) = some j := by
  unfold ixN
  rw [if_pos (by omega), if_pos (by omega), Int.toNat_natCast]
theorem set_same {α : Type} {l : List α} {k : Nat} {x : α} (h : l[k]? = some x) : l.set k x = l := by
  refine List.ext_getElem? fun i => ?_
  by_cases e : k = i
  · subst e
    rw [List.getElem?_set_self (List.getElem?_eq_some_iff.mp h).1, h]
  · rw [List.getElem?_set_ne e]
theorem vWs_set (ws : Ways) (k : Nat) (w : Option Nat) : (vWs ws).set k (vW w) = vWs (ws.set k w) := (List.map_set ..).symm
theorem tri_get {L : List Tri} {k : Nat} {x : Tri} (h : L[k]? = some x) : (L.map fun x => V.ref x.1)[k]? = some (.ref x.1) := by
  rw [List.getElem?_map, h]
  rfl
/-- tags that are texts, words of tags -/
structure WordsOk (tags : List Str) (F : Form) : Prop where
  txt : ∀ t ∈ tags, PyData.strOk t = true
  sub : ∀ s ∈ F, ∀ t ∈ s.1, t ∈ tags
  len : ∀ s ∈ F, s.1.length ≤ 5000
theorem WordsOk.ok {tags : List Str} {F : Form} (o : WordsOk tags F) {k : Nat} {s : Std} (h : F[k]? = some s) : ∀ t ∈ s.1, PyData.strOk t = true := fun t ht => o.txt t (o.sub s (mem_of h) t ht)
def spNeedless (T : List (Addr × Str)) : Sp := fun vs H Q _ => ∃ (a b : Addr) (tags : List Str) (F : Form), vs = [.ref a, .ref b] ∧ WordAt H a tags ∧ FormAt H b F ∧ Good tags F ∧ WordsOk tags F ∧ tags.length ≤ 100 ∧ Tabs T H ∧
  ∀ (p : Addr) (L : List Tri) (H' : Hp), Ext T H H' → Tabs T H' → NewF H H' p L (needless tags F) → Q (.ref p) H'
theorem ok_without_needless_ways (X : TX K mg) (TB : LamX.TabB base mg X.lam_c X.lam_P) : FnOk P w K mg base CX0 2 X.d_without_needless_ways.a X.d_without_needless_ways.fd ["tags", "standings"] (spNeedless (Tof X)) := by
  have nd := sc_without_needless_ways.nd
  refine X.lam_F.ok sc_without_needless_ways (fun vs H Q E h => ?_) (fun A outer s H vs Q E hr h => ?_)
  · obtain ⟨a, b, tags, F, rfl, _⟩ := h
    rfl
  · obtain ⟨a, b, tags, F, rfl, hT, hF, g, ok, htl, tb, k⟩ := h
    refine ⟨_, (pss_cons (ps_set (i := 2) nd rfl (Or.inl rfl) (pe_call (ok_copied X) (hr.mono (by decide)) rfl X.d_copied.mg X.d_copied.F.kp X.d_copied.b .nil pass0 (pa_cons (pv 1) pa_nil))) (pss_cons (ps_set (i := 3) nd rfl (Or.inl rfl) (pe_op op_rep (pe_lst (pa_cons pe_bl pa_nil)) (pe_callB (QB.call_lenK K) (by rfl) X.n_len PySem.boot_len (pa_cons (pv 1) pa_nil)))) (pss_cons (ps_for PassesOwn.never rfl (QB.pi_listK K (QL.pe_sortLamK (i := 1) (T := Tof X) K (by rfl) X.n_sorted X.n_len (QL.pe_range1 (by rfl) X.n_range (pe_callB (QB.call_lenK K) (by rfl) X.n_len PySem.boot_len (pa_cons (pv 1) pa_nil))) rfl rfl TB rfl (List.mem_singleton.mpr rfl) (fun p hp _ => by cases List.mem_singleton.mp hp; rfl) hr)) (pg_name (i := 4) nd rfl (Or.inl rfl)) (pss_cons (ps_asg (pe_ix (QB.ix_listK K) (pv 2) (pv 4) (fun _ _ => rfl)) (pg_tup (by rfl) (pgs_cons (pg_name (i := 5) nd rfl (Or.inl rfl)) (pgs_cons (pg_name (i := 6) nd rfl (Or.inl rfl)) (pgs_nil))))) (pss_cons (ps_for PassesOwn.never rfl (QB.pi_enumK K (by rfl) X.n_enumerate (pa_cons (pv 0) pa_nil)) (pg_tup (by rfl) (pgs_cons (pg_name (i := 7) nd rfl (Or.inl rfl)) (pgs_cons (pg_name (i := 8) nd rfl (Or.inl rfl)) (pgs_nil)))) (pss_cons (ps_set (i := 9) nd rfl (Or.inl rfl) (pe_ix (QB.ix_listK K) (pv 6) (pv 7) (fun _ _ => rfl))) (pss_one (ps_if (PW.pt (pw_and (pt_cmpR op_notN (pv 9) pe_non (nomark _)) (pw_and (pt_val (pe_ix (QB.ix_listK K) (pv 3) (pv 9) (fun _ _ => rfl))) (pw_and1 (pt_cmpR (QB.op_eqDK K hr.units) (pe_ix (QB.ix_tupK K) (pe_ix (QB.ix_listK K) (pv 1) (pv 9) (fun _ _ => rfl)) pe_int (fun _ _ => rfl)) (pe_op op_cat (pv 5) (pe_lst (pa_cons (pv 8) pa_nil))) (nomark _)))))) (pss_one (ps_asg pe_non (pg_sub (pv 6) (pv 7) set_list))) pss_nil)))) (pss_one (ps_asg (pe_call (ok_is_settled_at X) (hr.mono (by decide)) rfl X.d_is_settled_at.mg X.d_is_settled_at.F.kp X.d_is_settled_at.b .nil pass0 (pa_cons (pe_ix (QB.ix_listK K) (pv 2) (pv 4) (fun _ _ => rfl)) pa_nil)) (pg_sub (pv 3) (pv 4) set_list)))))) (pss_one (ps_ret (pv 2)))))), ?_⟩
    try dsimp only [Cx.nox, Cx.wish, cxOf]
    have hlen := g.pos
    have hsm := g.small
    -- needed = copied(standings); settled = [False] * len(standings)
    refine ⟨_, rfl, b, F, rfl, hF, by omega, fun p L H1 s1 nF => ?_⟩
    obtain ⟨vs1, hv1, hvl1⟩ := FormAt.lst (Same.form s1 hF)
    refine ⟨by show 1 ≤ sizeLine; decide, fun q0 hq0 => ?_⟩
    have s2 := Same.new s1 (o := .lst [V.bl false]) hq0
    refine ⟨_, rfl, _, _, rfl, .inl (SqL.of ((same_new hq0) _ _ hv1)), ?_⟩
    refine ⟨_, _, _, rfl, rfl, upd_same, by omega, by omega, by rw [Int.toNat_natCast, hvl1]; exact sz_le (by simp; omega), fun q hq => ?_⟩
    rw [Int.toNat_natCast, hvl1, rep_flat]
    have s3 := Same.new s2 (o := .lst (List.replicate F.length (V.bl false))) hq
    have s13 : Same H1 (upd (upd H1 q0 (.lst [V.bl false])) q (.lst (List.replicate F.length (V.bl false)))) := Same.new (same_new hq0) hq
    have nF3 := nF.same s13
    have q0n : H q = none := s2.free hq
    have npq : p ≠ q := ne_of_none ((same_new hq0) _ _ nF.lst) hq
    have qin : q ∉ inner L := fun z => by
      obtain ⟨xs, hx⟩ := nF.all.there z
      exact ne_of_none ((same_new hq0) _ _ hx) hq rfl
    have hq3 : (upd (upd H1 q0 (.lst [V.bl false])) q (.lst (List.replicate F.length (V.bl false)))) q = some (.lst ((List.replicate F.length false).map V.bl)) := by rw [upd_same, List.map_replicate]
    generalize (upd (upd H1 q0 (.lst [V.bl false])) q (.lst (List.replicate F.length (V.bl false)))) = H3 at s3 nF3 hq3 s13
    -- sorted(..)
    obtain ⟨ts, hts, hpr⟩ := Same.form s3 hF
    have htsl := Paired.length hpr
    refine ⟨_, rfl, _, _, rfl, .inl (SqL.of hts), _, rfl, fun r hr0 => ?_⟩
    rw [List.length_map, htsl]
    have s4 := Same.new s3 (o := .rng 0 (F.length : Int)) hr0
    have s34 : Same H3 (upd H3 r (.rng 0 (F.length : Int))) := same_new hr0
    refine ⟨r, F.length, b, ts, keyOf F, rfl, upd_same, by omega, rfl, SqL.of (s34 _ _ hts), htsl, fun j t ht => ?_, tb.ext s4, fun p5 H5 e5 t5 n5 => ?_⟩
    · obtain ⟨s, hs, x, y, h1, h2, h3⟩ := paired_get' hpr ht
      refine ⟨x, [.ref y], vS s.1, SqT.of (s34 _ _ h1), SqL.of (s34 _ _ h2), ?_⟩
      unfold keyOf
      rw [vS_len]
      have hj := (List.getElem?_eq_some_iff.mp hs).1
      rw [stdOf_get hj] at hs
      cases hs
      rfl
    · have E5 : Ext (Tof X) H H5 := (Ext.of s4).trans ⟨e5, fun _ => t5⟩
      have E35 : Ext (Tof X) H3 H5 := (Ext.of s34).trans ⟨e5, fun _ => t5⟩
      have f5 : Fresh H p5 := E5.free n5
      have E6 := E5.new' (o := .lst ((byLen F).map fun (j : Nat) => V.int (j : Int))) n5
      have E56 : Ext (Tof X) H3 (upd H5 p5 (.lst ((byLen F).map fun (j : Nat) => V.int (j : Int)))) := E35.new' n5
      have T6 := E6.2 tb
      refine ⟨p5, rfl, ⟨_, SqL.of upd_same⟩, ?_⟩
      have nF6 := nF3.ext E56
      have hq6 := E56.lst hq3
      have n5p : p ≠ p5 := ne_of_none (E35.lst nF3.lst) n5
      have n5q : q ≠ p5 := ne_of_none (E35.lst hq3) n5
      have n5i : p5 ∉ inner L := fun z => by
        obtain ⟨xs, hx⟩ := nF3.all.there z
        exact ne_of_none (E35.lst hx) n5 rfl
      have hblen := byLen_len F
      refine for_it (walk_list (K := K) (a := p5) (xs := (byLen F).map fun (j : Nat) => V.int (j : Int))) (fun i σ H' => ∃ (v4 v5 v6 v7 v8 v9 : Option V), σ = [some (.ref a), some (.ref b), some (.ref p), some (.ref q), v4, v5, v6, v7, v8, v9] ∧ Ext (Tof X) H H' ∧ Tabs (Tof X) H' ∧
        H' p = some (.lst (L.map fun x => V.ref x.1)) ∧ NewL H H' L (needFold tags F ((byLen F).take i)).1 ∧ H' q = some (.lst ((needFold tags F ((byLen F).take i)).2.map V.bl)) ∧ H' p5 = some (.lst ((byLen F).map fun (j : Nat) => V.int (j : Int))))
        ⟨none, none, none, none, none, none, rfl, E6, T6, nF6.lst, nF6.all, hq6, upd_same⟩ (fun i σ H' _ ⟨_, _, _, _, _, _, _, _, _, _, _, _, h⟩ => SqL.of h) ?_ ?_
      · rintro i x σ H7 H8 hi ⟨v4, v5, v6, v7, v8, v9, rfl, E7, T7, hp7, nL7, hq7, h57⟩ ⟨rfl, hx⟩
        rw [List.length_map, hblen] at hi
        have hbi : (byLen F)[i]? = some ((byLen F)[i]'(by omega)) := List.getElem?_eq_getElem _
        have hstep : needFold tags F ((byLen F).take (i + 1)) = needStep tags F (needFold tags F ((byLen F).take i)) ((byLen F)[i]'(by omega)) := by
          unfold needFold
          rw [List.take_succ, hbi, List.foldl_append]
          rfl
        have hkF : (byLen F)[i]'(by omega) < F.length := byLen_lt (List.mem_of_getElem? hbi)
        have pr : Pruned tags F (needFold tags F ((byLen F).take i)) := Pruned.fold g _ _ (Pruned.start tags F) fun k hk => byLen_lt (List.mem_of_mem_take hk)
        rw [List.getElem?_map, hbi] at hx
        cases hx
        rw [hstep]
        generalize (byLen F)[i]'(by omega) = kk at hkF
        generalize needFold tags F ((byLen F).take i) = st at nL7 hq7 pr
        obtain ⟨N, S⟩ := st
        have hNl : N.length = F.length := pr.len
        have hSl : S.length = F.length := pr.lenS
        have hN : N[kk]? = some (stdOf N kk) := stdOf_get (by omega)
        obtain ⟨w1, w2, w3⟩ := pr.word kk _ hN
        have hsl : (stdOf N kk).2.length = tags.length := w2.trans (g.ways (stdOf_get hkF))
        have hPl : (pruneWays tags F S (stdOf N kk)).length = (stdOf N kk).2.length := (pruneWays_len hsl).trans hsl.symm
        have hwF : (stdOf N kk).1.length ≤ 5000 := by rw [w1]; exact ok.len _ (mem_of (stdOf_get hkF))
        have hwok : ∀ t ∈ (stdOf N kk).1, PyData.strOk t = true := by rw [w1]; exact ok.ok (stdOf_get hkF)
        have hstp : needStep tags F (N, S) kk = (N.set kk ((stdOf N kk).1, pruneWays tags F S (stdOf N kk)), S.set kk ((pruneWays tags F S (stdOf N kk)).all Option.isNone)) := rfl
        rw [hstp]
        have hPg : ∀ (j : Nat) (t : Str) (y : Option Nat), tags[j]? = some t → (stdOf N kk).2[j]? = some y → (pruneWays tags F S (stdOf N kk))[j]? = some (pruneWay F S (stdOf N kk).1 t y) := fun j t y h1 h2 => pruneWays_get h1 h2
        generalize pruneWays tags F S (stdOf N kk) = Pw at hPl hPg
        generalize stdOf N kk = sd at hN w1 w2 w3 hsl hPl hwF hwok hPg
        obtain ⟨x3, hx3, g1, g2, g3⟩ := NewL.get nL7 hN
        have hfr := nL7.new x3 (List.mem_of_getElem? hx3)
        have hin3 : x3.2.2 ∈ inner L := List.mem_flatMap.mpr ⟨x3, List.mem_of_getElem? hx3, by simp⟩
        have np3 : p ≠ x3.2.2 := fun z => nF.out (z ▸ hin3)
        have nq3 : q ≠ x3.2.2 := fun z => qin (z ▸ hin3)
        have n53 : p5 ≠ x3.2.2 := fun z => n5i (z ▸ hin3)
        refine ⟨_, rfl, _, rfl, _, _, _, _, rfl, rfl, SqL.of hp7, atI_nat (tri_get hx3), ?_⟩
        refine ⟨x3.1, _, rfl, SqT.of g1, rfl, _, _, rfl, _, _, rfl, rfl, ?_⟩
        refine ⟨_, rfl, _, _, rfl, SqL.of (E7.word hT), ?_⟩
        refine for_it (walk_enumW (K := K) (a := a) (w := tags)) (fun j σ H' => ∃ (v7 v8 v9 : Option V), σ = [some (.ref a), some (.ref b), some (.ref p), some (.ref q), some (.int (kk : Int)), some (.ref x3.2.1), some (.ref x3.2.2), v7, v8, v9] ∧ Ext (Tof X) H H' ∧
          H' p = some (.lst (L.map fun x => V.ref x.1)) ∧ NewL H H' L (N.set kk (sd.1, Pw.take j ++ sd.2.drop j)) ∧ H' q = some (.lst (S.map V.bl)) ∧ H' p5 = some (.lst ((byLen F).map fun (j : Nat) => V.int (j : Int))))
          ⟨v7, v8, v9, rfl, E7, hp7, by rw [show (sd.1, Pw.take 0 ++ sd.2.drop 0) = sd from rfl, set_same hN]; exact nL7, hq7, h57⟩ (fun j σ H' _ ⟨_, _, _, _, E, _⟩ => E.word hT) ?_ ?_
        · rintro j v σ H9 H10 hj ⟨u7, u8, u9, rfl, E9, hp9, nL9, hq9, h59⟩ ⟨tp, t, ht, ntp, rfl, rfl⟩
          have htt : t ∈ tags := List.mem_of_getElem? ht
          have s9 : Same H9 (upd H9 tp (.tup [.int (j : Int), .str t])) := same_new ntp
          have E10 := E9.trans (.of s9)
          have nL10 := nL9.same s9
          have hp10 := s9 _ _ hp9
          have hq10 := s9 _ _ hq9
          have h510 := s9 _ _ h59
          refine ⟨tp, _, rfl, SqT.of upd_same, rfl, _, _, rfl, _, _, rfl, rfl, ?_⟩
          generalize upd H9 tp (.tup [.int (j : Int), .str t]) = H10 at s9 E10 nL10 hp10 hq10 h510
          have hj2 : j < sd.2.length := by omega
          have hy : sd.2[j]? = some sd.2[j] := List.getElem?_eq_getElem hj2
          have hset : (N.set kk (sd.1, Pw.take j ++ sd.2.drop j))[kk]? = some (sd.1, Pw.take j ++ sd.2.drop j) := List.getElem?_set_self (by omega)
          obtain ⟨x', hx', y1, y2, y3⟩ := nL10.get hset
          rw [hx3] at hx'
          cases hx'
          have hmix : (Pw.take j ++ sd.2.drop j)[j]? = some sd.2[j] := (mix_get hPl hj2).trans hy
          have hPj := hPg j t _ ht hy
          refine ⟨_, rfl, _, rfl, _, _, _, _, rfl, rfl, SqL.of y3, atI_nat (vWs_get hmix), ?_⟩
          refine ⟨_, rfl, rfl, _, rfl, ?_⟩
          rw [vW_is]
          -- the way stays
          have stay : ∀ (H' : Hp) (u9 : V), Same H10 H' → Pw[j]? = some sd.2[j] → ∃ (v7 v8 v9 : Option V), [some (V.ref a), some (.ref b), some (.ref p), some (.ref q), some (.int (kk : Int)), some (.ref x3.2.1), some (.ref x3.2.2), some (.int (j : Int)), some (.str t), some u9] = [some (.ref a), some (.ref b), some (.ref p), some (.ref q), some (.int (kk : Int)), some (.ref x3.2.1), some (.ref x3.2.2), v7, v8, v9] ∧ Ext (Tof X) H H' ∧
              H' p = some (.lst (L.map fun x => V.ref x.1)) ∧ NewL H H' L (N.set kk (sd.1, Pw.take (j + 1) ++ sd.2.drop (j + 1))) ∧ H' q = some (.lst (S.map V.bl)) ∧ H' p5 = some (.lst ((byLen F).map fun (j : Nat) => V.int (j : Int))) := fun H' u9 s' e =>
            ⟨_, _, _, rfl, E10.trans (.of s'), s' _ _ hp10, by rw [← mix_same hPl e hy]; exact nL10.same s', s' _ _ hq10, s' _ _ h510⟩
          generalize sd.2[j] = y at hy hmix hPj stay
          cases y with
          | none => exact iteF (stay H10 _ (Same.refl _) hPj)
          | some n =>
            have hnF : n < F.length := g.to _ (mem_of (stdOf_get hkF)) n (w3 n (List.mem_of_getElem? hy))
            have hSn : (S.map V.bl)[n]? = some (.bl (S.getD n false)) := by
              rw [List.getElem?_map, List.getElem?_eq_getElem (by omega), List.getD_eq_getElem?_getD, List.getElem?_eq_getElem (by omega)]
              rfl
            refine iteT ?_
            refine ⟨_, rfl, _, rfl, _, _, _, _, rfl, rfl, SqL.of hq10, atI_nat hSn, _, rfl, ?_⟩
            have hPj' : Pw[j]? = some (if (S.getD n false && decide ((stdOf F n).1 = sd.1 ++ [t])) = true then none else some n) := hPj
            cases hSb : S.getD n false with
            | false =>
              rw [hSb, Bool.false_and, if_neg Bool.false_ne_true] at hPj'
              exact iteF (stay H10 _ (Same.refl _) hPj')
            | true =>
              rw [hSb, Bool.true_and] at hPj'
              refine iteT ?_
              obtain ⟨vs2, tt, z1, z2, f1, f2, f3, f4, f5, f6⟩ := (E10.form hF).at (stdOf_get hnF)
              refine ⟨_, rfl, _, rfl, _, _, _, _, rfl, rfl, SqL.of f1, atI_nat f3, _, _, _, _, rfl, rfl, SqT.of f4, rfl, ?_⟩
              refine ⟨_, rfl, _, rfl, by show 1 ≤ sizeLine; decide, fun r1 hr1 => ?_⟩
              have sA : Same H10 (upd H10 r1 (.lst [V.str t])) := same_new hr1
              refine ⟨_, _, _, _, rfl, rfl, sA _ _ y2, upd_same, by rw [vS_len]; exact sz_le (by simp; omega), fun r2 hr2 => ?_⟩
              have sB : Same H10 (upd (upd H10 r1 (.lst [V.str t])) r2 (.lst (vS sd.1 ++ [V.str t]))) := Same.new sA hr2
              have hw2 : WordAt (upd (upd H10 r1 (.lst [V.str t])) r2 (.lst (vS sd.1 ++ [V.str t]))) r2 (sd.1 ++ [t]) := by
                unfold WordAt
                rw [upd_same, ← vS_append]
                rfl
              generalize upd (upd H10 r1 (.lst [V.str t])) r2 (.lst (vS sd.1 ++ [V.str t])) = H11 at sB hw2
              refine eq_words (Same.word sB f5) hw2 (ok.ok (stdOf_get hnF)) (fun u hu => ?_) ⟨_, rfl, ?_⟩
              · rcases List.mem_append.mp hu with hu | hu
                · exact hwok u hu
                · rw [List.mem_singleton.mp hu]
                  exact ok.txt t htt
              · by_cases he : (stdOf F n).1 = sd.1 ++ [t]
                · rw [if_pos (decide_eq_true he)] at hPj'
                  rw [if_pos (decide_eq_true he)]
                  have E11 := E10.trans (.of sB)
                  have nL11 := nL10.same sB
                  have y11 := Same.ways sB y3
                  refine ⟨_, rfl, _, rfl, x3.2.2, _, _, j, rfl, rfl, y11, ixN_of (by rw [vWs_len, List.length_append, List.length_take, List.length_drop]; omega), ?_⟩
                  have en := nL11.setWays (ws := (Pw.take j ++ sd.2.drop j).set j none) hx3 hset
                  rw [List.set_set, mix_set hPl hPj'] at en
                  have ew : (vWs (Pw.take j ++ sd.2.drop j)).set j .non = vWs (Pw.take (j + 1) ++ sd.2.drop (j + 1)) := by
                    rw [show V.non = vW none from rfl, vWs_set, mix_set hPl hPj']
                  rw [ew]
                  exact ⟨_, _, _, rfl, E11.mut hfr.2.2 y11, (upd_ne np3).trans (sB _ _ hp10), en, (upd_ne nq3).trans (sB _ _ hq10), (upd_ne n53).trans (sB _ _ h510)⟩
                · rw [if_neg (by simpa using he)] at hPj'
                  rw [if_neg (by simpa using he)]
                  exact stay H11 _ sB hPj'
        · rintro σ H9 ⟨u7, u8, u9, rfl, E9, hp9, nL9, hq9, h59⟩
          have hfull : Pw.take tags.length ++ sd.2.drop tags.length = Pw := by
            rw [List.take_of_length_le (by omega), List.drop_eq_nil_of_le (by omega), List.append_nil]
          rw [hfull] at nL9
          have hset : (N.set kk (sd.1, Pw))[kk]? = some (sd.1, Pw) := List.getElem?_set_self (by omega)
          obtain ⟨x', hx', y1, y2, y3⟩ := nL9.get hset
          rw [hx3] at hx'
          cases hx'
          refine ⟨_, rfl, _, rfl, _, _, _, _, rfl, rfl, SqL.of hp9, atI_nat (tri_get hx3), ?_⟩
          refine ⟨_, _, _, Pw, rfl, y1, y3, by omega, fun H10 s10 => ?_⟩
          refine ⟨_, rfl, _, rfl, q, _, _, kk, rfl, rfl, s10 _ _ hq9, ixN_of (by rw [List.length_map]; omega), ?_⟩
          have E10 := E9.trans (.of s10)
          have E11 := E10.mut (o := .lst ((S.map V.bl).set kk (.bl (Pw.all Option.isNone)))) (.of q0n) (s10 _ _ hq9)
          refine ⟨_, _, _, _, _, _, rfl, E11, E11.2 tb, (upd_ne npq).trans (s10 _ _ hp9), (nL9.same s10).upd (s10 _ _ hq9) qin, ?_, (upd_ne n5q.symm).trans (s10 _ _ h59)⟩
          rw [upd_same, List.map_set]
      · rintro σ H7 ⟨v4, v5, v6, v7, v8, v9, rfl, E7, T7, hp7, nL7, hq7, h57⟩
        rw [List.length_map, hblen, ← hblen, List.take_length] at nL7
        exact ⟨_, rfl, k p L H7 E7 T7 ⟨hp7, nL7, nF.new, nF.out⟩⟩
end
end Law
end

section
set_option Elab.async false
set_option linter.all false
set_option maxRecDepth 100000
set_option maxHeartbeats 8000000
namespace Law
open PySem PySem.Spec PyProof.Rows L2 LamX QB QM
section
variable {P : Program} {w : World} {K : PySem.W.Frag} {mg : Str → Option Value} {base : Heap}
theorem pruned_needless {tags : List Str} {F : Form} (g : Good tags F) : Pruned tags F (needFold tags F (byLen F)) := Pruned.fold g _ _ (Pruned.start tags F) fun k hk => byLen_lt hk
theorem needless_len {tags : List Str} {F : Form} (g : Good tags F) : (needless tags F).length = F.length := (pruned_needless g).len
theorem needless_std {tags : List Str} {F : Form} (g : Good tags F) {s : Std} (h : s ∈ needless tags F) : ∃ s' ∈ F, s.1 = s'.1 ∧ s.2.length = s'.2.length ∧ ∀ n, some n ∈ s.2 → some n ∈ s'.2 := by
  obtain ⟨k, hk, e⟩ := List.mem_iff_getElem.mp h
  have e' : (needless tags F)[k]? = some s := by rw [List.getElem?_eq_getElem hk, e]
  obtain ⟨h1, h2, h3⟩ := (pruned_needless g).word k s e'
  have hkF : k < F.length := by rw [← needless_len g]; exact hk
  exact ⟨stdOf F k, mem_of (stdOf_get hkF), h1, h2, h3⟩
theorem needless_in {tags : List Str} {F : Form} (g : Good tags F) (ht : tags.length ≤ 100) : WaysIn (needless tags F) := fun s hs => by
  obtain ⟨s', h1, h2, h3, h4⟩ := needless_std g hs
  exact ⟨by rw [h3, g.len s' h1]; exact ht, fun n hn => by rw [needless_len g]; exact g.to s' h1 n (h4 n hn)⟩
theorem alike_len {F : Form} : (alike F).length = F.length := by
  have all : ∀ (f many : Nat) (cs : List Nat), cs.length = F.length → (alikeLoop F f many cs).length = F.length := by
    intro f
    induction f with
    | zero => exact fun _ _ h => h
    | succ f ih =>
      intro many cs h
      unfold alikeLoop
      split
      · exact ih _ _ (part_len h)
      · exact h
  exact all _ _ _ (by rw [QD.numb_len]; exact List.length_map _)
def spLeast (T : List (Addr × Str)) : Sp := fun vs H Q _ => ∃ (a b : Addr) (tags : List Str) (F : Form), vs = [.ref a, .ref b] ∧ WordAt H a tags ∧ FormAt H b F ∧ Good tags F ∧ WordsOk tags F ∧ tags.length ≤ 100 ∧ Tabs T H ∧
  ∀ (p : Addr) (L : List Tri) (H' : Hp), Ext T H H' → Tabs T H' → NewF H H' p L (least tags F) → Q (.ref p) H'
theorem ok_least_form (X : TX K mg) (TB : LamX.TabB base mg X.lam_c X.lam_P) : FnOk P w K mg base CX0 4 X.d_least_form.a X.d_least_form.fd ["tags", "standings"] (spLeast (Tof X)) := by
  have nd := sc_least_form.nd
  refine X.d_least_form.F.ok sc_least_form (fun vs H Q E h => ?_) (fun cdv A outer s H vs Q E hr h => ?_)
  · obtain ⟨a, b, tags, F, rfl, _⟩ := h
    rfl
  · obtain ⟨a, b, tags, F, rfl, hT, hF, g, ok, htl, tb, k⟩ := h
    refine ⟨_, (pss_cons (ps_set (i := 2) nd rfl (Or.inl rfl) (pe_call (ok_without_needless_ways X TB) (hr.mono (by decide)) rfl X.d_without_needless_ways.mg X.d_without_needless_ways.F.kp X.d_without_needless_ways.b .nil pass0 (pa_cons (pv 0) (pa_cons (pv 1) pa_nil)))) (pss_one (ps_ret (pe_call (ok_in_order_met X) (hr.mono (by decide)) rfl X.d_in_order_met.mg X.d_in_order_met.F.kp X.d_in_order_met.b .nil pass0 (pa_cons (pv 2) (pa_cons (pe_call (ok_alike_classes X) (hr.mono (by decide)) rfl X.d_alike_classes.mg X.d_alike_classes.F.kp X.d_alike_classes.b .nil pass0 (pa_cons (pv 2) pa_nil)) pa_nil)))))), ?_⟩
    try dsimp only [Cx.nox, Cx.wish, cxOf]
    have hsm := g.small
    have hpos := g.pos
    refine ⟨_, rfl, _, rfl, a, b, tags, F, rfl, hT, hF, g, ok, htl, tb, fun p L H1 e1 t1 n1 => ?_⟩
    have hlen := needless_len g
    have hin := needless_in g htl
    have hwl : ∀ s ∈ needless tags F, s.1.length ≤ 10000 := fun s hs => by
      obtain ⟨s', h1, h2, _⟩ := needless_std g hs
      rw [h2]
      have := ok.len s' h1
      omega
    refine ⟨_, rfl, _, rfl, p, needless tags F, rfl, n1.form, by omega, by omega, hin, hwl, fun c H2 s2 nc hc => ?_⟩
    refine ⟨p, c, needless tags F, alike (needless tags F), H, L, rfl, n1.same s2, fun q hq => (e1.trans (.of s2)).free hq, hc, alike_len, by omega, by omega, hin, fun q L2 H3 s3 n3 => ?_⟩
    have e3 := (e1.trans (.of s2)).trans (.of s3)
    exact k q L2 H3 e3 (e3.2 tb) n3
end
end Law
end

section
set_option Elab.async false
set_option linter.all false
set_option maxRecDepth 100000
set_option maxHeartbeats 8000000
namespace Law
open PySem PySem.Spec PyProof.Rows L2 LamX QB QM
theorem kit_int_int {K : PySem.W.Frag} : PySem.W.kitOne K (.type "int") (.type "int") = some true := kit_ty (by decide +kernel)
theorem kit_int_bool {K : PySem.W.Frag} : PySem.W.kitOne K (.type "int") (.type "bool") = some false := kit_ty (by decide +kernel)
theorem kit_list_list {K : PySem.W.Frag} : PySem.W.kitOne K (.type "list") (.type "list") = some true := kit_ty (by decide +kernel)
theorem kit_str_str {K : PySem.W.Frag} : PySem.W.kitOne K (.type "str") (.type "str") = some true := kit_ty (by decide +kernel)
theorem kit_tuple_tuple {K : PySem.W.Frag} : PySem.W.kitOne K (.type "tuple") (.type "tuple") = some true := kit_ty (by decide +kernel)
section
variable {P : Program} {w : World} {K : PySem.W.Frag} {mg : Str → Option Value} {base : Heap}
/-- is_number of a whole number -/
def spIsNumber : Sp := fun vs H Q _ => ∃ (n lo hi : Int), vs = [.int n, .int lo, .int hi] ∧ Q (.bl (decide (lo ≤ n ∧ n ≤ hi))) H
theorem ok_is_number (X : TX K mg) : FnOk P w K mg base CX0 1 X.d_is_number.a X.d_is_number.fd ["x", "least", "most"] spIsNumber := by
  have nd := sc_is_number.nd
  refine X.d_is_number.F.ok sc_is_number (fun vs H Q E h => ?_) (fun cdv A outer s H vs Q E hr h => ?_)
  · obtain ⟨n, lo, hi, rfl, _⟩ := h
    rfl
  · obtain ⟨n, lo, hi, rfl, k⟩ := h
    refine ⟨_, (pss_one (ps_ret (pe_and (pe_callB (QB.call_isiK K) (by rfl) X.n_isinstance QB.bo_isinstance (pa_cons (pv 0) (pa_cons (pe_bltn (v := .ty "int") (by rfl) X.n_int QB.bo_int rfl) pa_nil))) (pe_and (pe_not (pe_callB (QB.call_isiK K) (by rfl) X.n_isinstance QB.bo_isinstance (pa_cons (pv 0) (pa_cons (pe_bltn (v := .ty "bool") (by rfl) X.n_bool QB.bo_bool rfl) pa_nil)))) (pe_one (pe_chain op_le op_le (pv 1) (pv 0) (pv 2))))))), ?_⟩
    try dsimp only [Cx.nox, Cx.wish, cxOf]
    refine ⟨_, rfl, _, _, _, _, true, rfl, .ty "int", .base (.int n), kit_int_int, true, rfl, ?_⟩
    refine iteT ?_
    refine ⟨_, rfl, _, _, _, _, false, rfl, .ty "bool", .base (.int n), kit_int_bool, false, rfl, true, rfl, ?_⟩
    refine iteT ?_
    refine ⟨_, rfl, _, rfl, _, _, rfl, rfl, _, rfl, ?_⟩
    by_cases h1 : lo ≤ n
    · rw [if_pos (decide_eq_true h1)]
      refine ⟨_, rfl, _, _, rfl, rfl, ?_⟩
      have e : decide (lo ≤ n ∧ n ≤ hi) = decide (n ≤ hi) := by simp [h1]
      rw [e] at k
      exact k
    · rw [if_neg (by simpa using h1)]
      have e : decide (lo ≤ n ∧ n ≤ hi) = false := by simp [h1]
      rw [e] at k
      exact k
/-- is_list of a list -/
def spIsList : Sp := fun vs H Q _ => ∃ (a : Addr) (xs : List V) (lo hi : Int), vs = [.ref a, .int lo, .int hi] ∧ H a = some (.lst xs) ∧ Q (.bl (decide (lo ≤ (xs.length : Int) ∧ (xs.length : Int) ≤ hi))) H
theorem ok_is_list (X : TX K mg) : FnOk P w K mg base CX0 1 X.d_is_list.a X.d_is_list.fd ["x", "least", "most"] spIsList := by
  have nd := sc_is_list.nd
  refine X.d_is_list.F.ok sc_is_list (fun vs H Q E h => ?_) (fun cdv A outer s H vs Q E hr h => ?_)
  · obtain ⟨a, xs, lo, hi, rfl, _⟩ := h
    rfl
  · obtain ⟨a, xs, lo, hi, rfl, ha, k⟩ := h
    refine ⟨_, (pss_one (ps_ret (pe_and (pe_callB (QB.call_isiK K) (by rfl) X.n_isinstance QB.bo_isinstance (pa_cons (pv 0) (pa_cons (pe_bltn (v := .ty "list") (by rfl) X.n_list QB.bo_list rfl) pa_nil))) (pe_one (pe_chain op_le op_le (pv 1) (pe_callB (QB.call_lenK K) (by rfl) X.n_len PySem.boot_len (pa_cons (pv 0) pa_nil)) (pv 2)))))), ?_⟩
    try dsimp only [Cx.nox, Cx.wish, cxOf]
    refine ⟨_, rfl, _, _, _, _, true, rfl, .ty "list", .base (.lst ha), kit_list_list, true, rfl, ?_⟩
    refine iteT ?_
    refine ⟨_, rfl, _, rfl, _, _, rfl, .inl (SqL.of ha), _, _, rfl, rfl, _, rfl, ?_⟩
    by_cases h1 : lo ≤ (xs.length : Int)
    · rw [if_pos (decide_eq_true h1)]
      refine ⟨_, rfl, _, _, rfl, rfl, ?_⟩
      have e : decide (lo ≤ (xs.length : Int) ∧ (xs.length : Int) ≤ hi) = decide ((xs.length : Int) ≤ hi) := by simp [h1]
      rw [e] at k
      exact k
    · rw [if_neg (by simpa using h1)]
      have e : decide (lo ≤ (xs.length : Int) ∧ (xs.length : Int) ≤ hi) = false := by simp [h1]
      rw [e] at k
      exact k
def letters : Str := "abcdefghijklmnopqrstuvwxyz"
/-- a name of a tag -/
structure NameOk (t : Str) : Prop where
  pos : 1 ≤ t.length
  len : t.length ≤ 8
  all : ∀ c ∈ t.cps.toList, c ∈ letters.cps.toList
theorem NameOk.txt {t : Str} (h : NameOk t) : PyData.strOk t = true := by
  unfold PyData.strOk
  rw [← Array.all_toList, List.all_eq_true]
  intro c hc
  have := h.all c hc
  have small : ∀ c ∈ letters.cps.toList, decide (c < 0x110000) = true := by decide +kernel
  exact small c this
def spIsName : Sp := fun vs H Q _ => ∃ t : Str, vs = [.str t] ∧ NameOk t ∧ ∀ H', Same H H' → Q (.bl true) H'
theorem ok_is_name (X : TX K mg) : FnOk P w K mg base CX0 1 X.d_is_name.a X.d_is_name.fd ["x"] spIsName := by
  have nd := sc_is_name.nd
  refine X.d_is_name.F.ok sc_is_name (fun vs H Q E h => ?_) (fun cdv A outer s H vs Q E hr h => ?_)
  · obtain ⟨t, rfl, _⟩ := h
    rfl
  · obtain ⟨t, rfl, ho, k⟩ := h
    refine ⟨_, (pss_cons (ps_if (PW.pt (pw_or (pt_not (pt_val (pe_callB (QB.call_isiK K) (by rfl) X.n_isinstance QB.bo_isinstance (pa_cons (pv 0) (pa_cons (pe_bltn (v := .ty "str") (by rfl) X.n_str QB.bo_str rfl) pa_nil))))) (pw_or1 (pt_not (pt_chain op_le op_le pe_int (pe_callB call_len_str (by rfl) X.n_len PySem.boot_len (pa_cons (pv 0) pa_nil)) (pe_gc rfl X.c_MOST_LETTERS)))))) (pss_one (ps_ret pe_bl)) pss_nil) (pss_one (ps_ret (pe_callB (QB.cr_allK K rfl) (by rfl) X.n_all QB.bo_all (pa_cons (pe_lc (own := [("letter", 1)]) (g := gName 1) (tt := tYes) rfl nd (pi_str (pv 0)) (blkOk_by (N := ["x", "letter"]) (sc := defScope s_is_name) (by decide +kernel)) (fun _ _ _ _ _ => pg_name (i := 1) nd rfl (Or.inl rfl)) (fun _ _ _ _ _ => pts_nil) (fun _ _ _ _ _ => (pe_cmpR op_in_sign (pv 1) (pe_gc rfl X.c_LETTERS) rfl))) pa_nil))))), ?_⟩
    try dsimp only [Cx.nox, Cx.wish, cxOf]
    have h1 := ho.pos
    have h8 := ho.len
    refine ⟨_, rfl, _, _, _, _, true, rfl, .ty "str", .base (.str t), kit_str_str, true, rfl, ?_⟩
    refine iteF ?_
    refine ⟨_, rfl, t, rfl, sz_le (by omega), _, _, rfl, rfl, _, rfl, ?_⟩
    rw [if_pos (decide_eq_true (by omega))]
    refine ⟨_, _, rfl, rfl, _, rfl, ?_⟩
    rw [decide_eq_true (by omega : (t.length : Int) ≤ 8)]
    refine iteF ?_
    refine ⟨_, rfl, t, rfl, fun D hD => ?_⟩
    refine lc_map walk_str hD (by have e : t.cps.size = t.length := rfl; omega) (fun _ _ => True.intro) (fun i => .bl true) ?_ ?_
    · rintro i x H1 H2 kk hi s1 ⟨rfl, c, hc, rfl⟩ hk
      refine ⟨rfl, _, rfl, c, letters, rfl, rfl, ?_⟩
      rw [decide_eq_true (ho.all c (by
        have := List.mem_of_getElem? (show t.cps.toList[i]? = some c by simpa using hc)
        exact this))]
      exact hk _ (Same.refl _)
    · intro H1 s1 e
      have e2 : (List.range t.cps.size).map (fun _ => V.bl true) = (List.replicate t.cps.size true).map V.bl := by
        rw [List.map_replicate, List.map_const', List.length_range]
      refine ⟨_, List.replicate t.cps.size true, rfl, SqL.of (by rw [← e2]; exact e), ?_⟩
      have e3 : (List.replicate t.cps.size true).all id = true := by
        rw [List.all_eq_true]
        intro b hb
        rw [List.eq_of_mem_replicate hb]
        rfl
      rw [e3]
      exact k H1 s1

def spIsTag : Sp := fun vs H Q _ => ∃ (a : Addr) (tags : List Str) (t : Str), vs = [.ref a, .str t] ∧ WordAt H a tags ∧ Q (.bl (decide (t ∈ tags))) H
theorem ok_is_tag (X : TX K mg) : FnOk P w K mg base CX0 1 X.d_is_tag.a X.d_is_tag.fd ["tags", "x"] spIsTag := by
  have nd := sc_is_tag.nd
  refine X.d_is_tag.F.ok sc_is_tag (fun vs H Q E h => ?_) (fun cdv A outer s H vs Q E hr h => ?_)
  · obtain ⟨a, tags, t, rfl, _⟩ := h
    rfl
  · obtain ⟨a, tags, t, rfl, ha, k⟩ := h
    refine ⟨_, (pss_one (ps_ret (pe_and (pe_callB (QB.call_isiK K) (by rfl) X.n_isinstance QB.bo_isinstance (pa_cons (pv 1) (pa_cons (pe_bltn (v := .ty "str") (by rfl) X.n_str QB.bo_str rfl) pa_nil))) (pe_one (pe_cmpR (QB.op_inK K) (pv 1) (pv 0) rfl))))), ?_⟩
    try dsimp only [Cx.nox, Cx.wish, cxOf]
    refine ⟨_, rfl, _, _, _, _, true, rfl, .ty "str", .base (.str t), kit_str_str, true, rfl, ?_⟩
    refine iteT ?_
    refine ⟨_, rfl, _, rfl, a, vS tags, rfl, .inl (SqL.of ha), rfl, vS_flat, ?_⟩
    show Q (.bl (if false = true then !inV (.str t) (vS tags) else inV (.str t) (vS tags))) H
    rw [if_neg Bool.false_ne_true, inV_word]
    exact k
def spIsSubject : Sp := fun vs H Q _ => ∃ (a b : Addr) (tags wd : List Str), vs = [.ref a, .ref b] ∧ WordAt H a tags ∧ WordAt H b wd ∧ wd.length ≤ 10000 ∧ ∀ H', Same H H' → Q (.bl (wd.all fun t => decide (t ∈ tags))) H'
theorem ok_is_subject (X : TX K mg) : FnOk P w K mg base CX0 2 X.d_is_subject.a X.d_is_subject.fd ["tags", "x"] spIsSubject := by
  have nd := sc_is_subject.nd
  refine X.d_is_subject.F.ok sc_is_subject (fun vs H Q E h => ?_) (fun cdv A outer s H vs Q E hr h => ?_)
  · obtain ⟨a, b, tags, wd, rfl, _⟩ := h
    rfl
  · obtain ⟨a, b, tags, wd, rfl, ha, hb, hz, k⟩ := h
    refine ⟨_, (pss_one (ps_ret (pe_and (pe_callB (QB.call_isiK K) (by rfl) X.n_isinstance QB.bo_isinstance (pa_cons (pv 1) (pa_cons (pe_bltn (v := .ty "list") (by rfl) X.n_list QB.bo_list rfl) pa_nil))) (pe_one (pe_callB (QB.cr_allK K rfl) (by rfl) X.n_all QB.bo_all (pa_cons (pe_lc (own := [("tag", 2)]) (g := gName 2) (tt := tYes) rfl nd (QB.pi_listK K (pv 1)) (blkOk_by (N := ["tags", "x", "tag"]) (sc := defScope s_is_subject) (by decide +kernel)) (fun _ _ _ _ _ => pg_name (i := 2) nd rfl (Or.inl rfl)) (fun _ _ _ _ _ => pts_nil) (fun _ _ _ _ _ => (pe_call (ok_is_tag X) (hr.mono (by decide)) rfl X.d_is_tag.mg X.d_is_tag.F.kp X.d_is_tag.b .nil pass0 (pa_cons (pv 0) (pa_cons (pv 2) pa_nil))))) pa_nil)))))), ?_⟩
    try dsimp only [Cx.nox, Cx.wish, cxOf]
    refine ⟨_, rfl, _, _, _, _, true, rfl, .ty "list", .base (.lst hb), kit_list_list, true, rfl, ?_⟩
    refine iteT ?_
    refine ⟨_, rfl, _, rfl, ⟨_, SqL.of hb⟩, fun D hD => ?_⟩
    refine lc_map (walk_listW (K := K) (a := b) (w := wd)) hD (by omega) (fun H1 s1 => Same.word s1 hb) (fun i => .bl (decide ((wd[i]?).getD "" ∈ tags))) ?_ ?_
    · rintro i x H1 H2 kk hi s1 ⟨y, hy, rfl, rfl⟩ hk
      refine ⟨rfl, _, rfl, _, rfl, a, tags, y, rfl, Same.word s1 ha, ?_⟩
      have e := hk _ (Same.refl H2)
      rw [hy] at e
      exact e
    · intro H1 s1 e
      rw [range_map_get _ wd (fun t => .bl (decide (t ∈ tags))) (fun i x hx => by rw [hx]; rfl)] at e
      refine ⟨_, wd.map fun t => decide (t ∈ tags), rfl, SqL.of (by rw [e, List.map_map]; rfl), ?_⟩
      have e2 := k H1 s1
      rw [List.all_map]
      exact e2
/-- standings that may be passed -/
structure StdOk (tags : List Str) (n : Nat) (s : Std) : Prop where
  len : s.1.length ≤ 8
  sub : ∀ t ∈ s.1, t ∈ tags
  ways : s.2.length = tags.length
  to : ∀ m, some m ∈ s.2 → m < n
structure FormOk (tags : List Str) (F : Form) : Prop where
  pos : 1 ≤ F.length
  len : F.length ≤ 30
  all : ∀ s ∈ F, StdOk tags F.length s
structure TagsOk (tags : List Str) : Prop where
  pos : 1 ≤ tags.length
  len : tags.length ≤ 6
  nd : tags.Nodup
  names : ∀ t ∈ tags, NameOk t
theorem FormOk.good {tags : List Str} {F : Form} (f : FormOk tags F) : Good tags F := ⟨f.pos, fun s hs => (f.all s hs).ways, fun s hs n hn => (f.all s hs).to n hn, by have := f.len; omega⟩
theorem FormOk.words {tags : List Str} {F : Form} (f : FormOk tags F) (t : TagsOk tags) : WordsOk tags F := ⟨fun x hx => (t.names x hx).txt, fun s hs => (f.all s hs).sub, fun s hs => by have := (f.all s hs).len; omega⟩
def spIsStanding : Sp := fun vs H Q _ => ∃ (a x p1 p2 : Addr) (tags : List Str) (n : Nat) (s : Std), vs = [.ref a, .int (n : Int), .ref x] ∧ WordAt H a tags ∧ H x = some (.tup [.ref p1, .ref p2]) ∧ WordAt H p1 s.1 ∧ WaysAt H p2 s.2 ∧ StdOk tags n s ∧ tags.length ≤ 100 ∧ ∀ H', Same H H' → Q (.bl true) H'
theorem ok_is_standing (X : TX K mg) : FnOk P w K mg base CX0 3 X.d_is_standing.a X.d_is_standing.fd ["tags", "many", "x"] spIsStanding := by
  have nd := sc_is_standing.nd
  refine X.d_is_standing.F.ok sc_is_standing (fun vs H Q E h => ?_) (fun cdv A outer s H vs Q E hr h => ?_)
  · obtain ⟨a, x, p1, p2, tags, n, s, rfl, _⟩ := h
    rfl
  · obtain ⟨a, x, p1, p2, tags, n, s, rfl, ha, hx, h1, h2, ok, htl, k⟩ := h
    refine ⟨_, (pss_cons (ps_if (PW.pt (pw_or (pt_not (pt_val (pe_callB (QB.call_isiK K) (by rfl) X.n_isinstance QB.bo_isinstance (pa_cons (pv 2) (pa_cons (pe_bltn (v := .ty "tuple") (by rfl) X.n_tuple QB.bo_tuple rfl) pa_nil))))) (pw_or1 (pt_cmpR op_ne (pe_callB (QB.call_lenK K) (by rfl) X.n_len PySem.boot_len (pa_cons (pv 2) pa_nil)) pe_int (nomark _))))) (pss_one (ps_ret pe_bl)) pss_nil) (pss_cons (ps_asg (pv 2) (pg_tup (by rfl) (pgs_cons (pg_name (i := 3) nd rfl (Or.inl rfl)) (pgs_cons (pg_name (i := 4) nd rfl (Or.inl rfl)) (pgs_nil))))) (pss_cons (ps_if (PW.pt (pw_or (pt_not (pt_val (pe_call (ok_is_list X) (hr.mono (by decide)) rfl X.d_is_list.mg X.d_is_list.F.kp X.d_is_list.b .nil pass0 (pa_cons (pv 3) (pa_cons pe_int (pa_cons (pe_gc rfl X.c_LONGEST_WORD) pa_nil)))))) (pw_or1 (pt_not (pt_val (pe_call (ok_is_subject X) (hr.mono (by decide)) rfl X.d_is_subject.mg X.d_is_subject.F.kp X.d_is_subject.b .nil pass0 (pa_cons (pv 0) (pa_cons (pv 3) pa_nil)))))))) (pss_one (ps_ret pe_bl)) pss_nil) (pss_cons (ps_if (pt_not (pt_val (pe_call (ok_is_list X) (hr.mono (by decide)) rfl X.d_is_list.mg X.d_is_list.F.kp X.d_is_list.b .nil pass0 (pa_cons (pv 4) (pa_cons (pe_callB (QB.call_lenK K) (by rfl) X.n_len PySem.boot_len (pa_cons (pv 0) pa_nil)) (pa_cons (pe_callB (QB.call_lenK K) (by rfl) X.n_len PySem.boot_len (pa_cons (pv 0) pa_nil)) pa_nil)))))) (pss_one (ps_ret pe_bl)) pss_nil) (pss_one (ps_ret (pe_callB (QB.cr_allK K rfl) (by rfl) X.n_all QB.bo_all (pa_cons (pe_lc (own := [("way", 5)]) (g := gName 5) (tt := tYes) rfl nd (QB.pi_listK K (pv 4)) (blkOk_by (N := ["tags", "many", "x", "word", "ways", "way"]) (sc := defScope s_is_standing) (by decide +kernel)) (fun _ _ _ _ _ => pg_name (i := 5) nd rfl (Or.inl rfl)) (fun _ _ _ _ _ => pts_nil) (fun _ _ _ _ _ => (pe_or (pe_cmpR op_isN (pv 5) pe_non (nomark _)) (pe_one (pe_call (ok_is_number X) (hr.mono (by decide)) rfl X.d_is_number.mg X.d_is_number.F.kp X.d_is_number.b .nil pass0 (pa_cons (pv 5) (pa_cons pe_int (pa_cons (pe_op op_sub (pv 1) pe_int) pa_nil)))))))) pa_nil)))))))), ?_⟩
    try dsimp only [Cx.nox, Cx.wish, cxOf]
    have o1 := ok.len
    have o2 := ok.ways
    refine ⟨_, rfl, _, _, _, _, true, rfl, .ty "tuple", .base (.tup hx), kit_tuple_tuple, true, rfl, ?_⟩
    refine iteF ?_
    refine ⟨_, rfl, _, _, rfl, .inr (SqT.of hx), rfl, _, rfl, ?_⟩
    refine iteF ?_
    refine ⟨_, rfl, x, _, rfl, SqT.of hx, rfl, _, _, rfl, _, _, rfl, rfl, ?_⟩
    refine ⟨_, rfl, p1, _, _, _, rfl, h1, _, rfl, ?_⟩
    rw [decide_eq_true (by rw [vS_len]; omega)]
    refine iteF ?_
    refine ⟨_, rfl, _, rfl, a, p1, tags, s.1, rfl, ha, h1, by omega, fun H1 s1 => ?_⟩
    rw [show (s.1.all fun t => decide (t ∈ tags)) = true from List.all_eq_true.mpr fun t ht => decide_eq_true (ok.sub t ht)]
    refine ⟨_, rfl, ?_⟩
    refine iteF ?_
    refine ⟨_, rfl, _, rfl, _, _, rfl, .inl (SqL.of (Same.word s1 ha)), _, rfl, _, _, rfl, .inl (SqL.of (Same.word s1 ha)), p2, _, _, _, rfl, Same.ways s1 h2, _, rfl, ?_⟩
    rw [decide_eq_true (by rw [vS_len, vWs_len]; omega)]
    refine iteF ?_
    refine ⟨_, rfl, _, rfl, ⟨_, SqL.of (Same.ways s1 h2)⟩, fun D hD => ?_⟩
    refine lc_map (walk_listWs (K := K) (a := p2) (ws := s.2)) hD (by omega) (fun H2 s2 => Same.ways (s1.trans s2) h2) (fun i => .bl true) ?_ ?_
    · rintro i v H2 H3 kk hi s2 ⟨y, hy, rfl, rfl⟩ hk
      have e := hk _ (Same.refl H3)
      refine ⟨rfl, _, rfl, rfl, _, rfl, ?_⟩
      rw [vW_is]
      cases y with
      | none => exact iteT e
      | some m =>
        have hm := ok.to m (List.mem_of_getElem? hy)
        refine iteF ?_
        refine ⟨_, rfl, _, rfl, _, _, rfl, rfl, _, _, _, rfl, ?_⟩
        rw [decide_eq_true (by omega)]
        exact e
    · intro H2 s2 e
      have e2 : (List.range s.2.length).map (fun _ => V.bl true) = (List.replicate s.2.length true).map V.bl := by
        rw [List.map_replicate, List.map_const', List.length_range]
      refine ⟨_, List.replicate s.2.length true, rfl, SqL.of (by rw [← e2]; exact e), ?_⟩
      have e3 : (List.replicate s.2.length true).all id = true := by
        rw [List.all_eq_true]
        intro b hb
        rw [List.eq_of_mem_replicate hb]
        rfl
      rw [e3]
      exact k H2 (s1.trans s2)
def spCheckTags : Sp := fun vs H Q _ => ∃ (a : Addr) (tags : List Str), vs = [.ref a] ∧ WordAt H a tags ∧ TagsOk tags ∧ ∀ H', Same H H' → Q .non H'
theorem ok_check_tags (X : TX K mg) : FnOk P w K mg base CX0 3 X.d_check_tags.a X.d_check_tags.fd ["tags"] spCheckTags := by
  have nd := sc_check_tags.nd
  refine X.d_check_tags.F.ok sc_check_tags (fun vs H Q E h => ?_) (fun cdv A outer s H vs Q E hr h => ?_)
  · obtain ⟨a, tags, rfl, _⟩ := h
    rfl
  · obtain ⟨a, tags, rfl, ha, ok, k⟩ := h
    refine ⟨_, (pss_cons (ps_if (pt_not (pt_val (pe_call (ok_is_list X) (hr.mono (by decide)) rfl X.d_is_list.mg X.d_is_list.F.kp X.d_is_list.b .nil pass0 (pa_cons (pv 0) (pa_cons pe_int (pa_cons (pe_gc rfl X.c_MOST_TAGS) pa_nil)))))) (pss_one ps_never) pss_nil) (pss_one (ps_for PassesOwn.never rfl (QB.pi_enumK K (by rfl) X.n_enumerate (pa_cons (pv 0) pa_nil)) (pg_tup (by rfl) (pgs_cons (pg_name (i := 1) nd rfl (Or.inl rfl)) (pgs_cons (pg_name (i := 2) nd rfl (Or.inl rfl)) (pgs_nil)))) (pss_one (ps_if (PW.pt (pw_or (pt_not (pt_val (pe_call (ok_is_name X) (hr.mono (by decide)) rfl X.d_is_name.mg X.d_is_name.F.kp X.d_is_name.b .nil pass0 (pa_cons (pv 2) pa_nil)))) (pw_or1 (pt_cmpR (QB.op_inK K) (pv 2) (pe_slice (QB.sl_listK K) (pv 0) po_none (po_some (pv 1))) rfl)))) (pss_one ps_never) pss_nil))))), ?_⟩
    try dsimp only [Cx.nox, Cx.wish, cxOf]
    have o1 := ok.pos
    have o2 := ok.len
    refine ⟨_, rfl, a, _, _, _, rfl, ha, _, rfl, ?_⟩
    rw [decide_eq_true (by rw [vS_len]; omega)]
    refine iteF ?_
    refine ⟨_, rfl, _, _, rfl, SqL.of ha, ?_⟩
    refine for_it (walk_enumW (K := K) (a := a) (w := tags)) (fun i σ H' => ∃ v1 v2, σ = [some (.ref a), v1, v2] ∧ Same H H') ⟨none, none, rfl, Same.refl H⟩ (fun i σ H' _ ⟨_, _, _, s1⟩ => Same.word s1 ha) ?_ ?_
    · rintro i v σ H1 H2 hi ⟨v1, v2, rfl, s1⟩ ⟨tp, t, ht, ntp, rfl, rfl⟩
      have s2 := Same.new s1 (o := .tup [.int (i : Int), .str t]) ntp
      refine ⟨tp, _, rfl, SqT.of upd_same, rfl, _, _, rfl, _, _, rfl, rfl, ?_⟩
      refine ⟨_, rfl, t, rfl, ok.names t (List.mem_of_getElem? ht), fun H3 s3 => ⟨_, rfl, ?_⟩⟩
      have s4 := s2.trans s3
      refine iteF ?_
      refine ⟨_, rfl, _, rfl, _, rfl, _, rfl, a, _, rfl, SqL.of (Same.word s4 ha), fun q hq => ?_⟩
      rw [cut_take, vS_take]
      refine ⟨q, _, rfl, .inl (SqL.of upd_same), rfl, vS_flat, _, rfl, ?_⟩
      rw [if_neg Bool.false_ne_true, inV_word]
      have hnot : t ∉ tags.take i := fun hm => by
        obtain ⟨j, hj, e⟩ := List.mem_iff_getElem.mp hm
        rw [List.length_take] at hj
        rw [List.getElem_take] at e
        have e2 : tags[j]? = some t := by rw [List.getElem?_eq_getElem (by omega), e]
        have := nd_ix ok.nd e2 ht
        omega
      rw [decide_eq_false hnot]
      exact iteF ⟨_, _, rfl, Same.new s4 hq⟩
    · rintro σ H1 ⟨v1, v2, rfl, s1⟩
      exact k H1 s1
def spCheckWord : Sp := fun vs H Q _ => ∃ (a b : Addr) (tags wd : List Str) (most : Int), vs = [.ref a, .ref b, .int most] ∧ WordAt H a tags ∧ WordAt H b wd ∧ (wd.length : Int) ≤ most ∧ (∀ t ∈ wd, t ∈ tags) ∧ ∀ H', Same H H' → Q .non H'
theorem ok_check_word (X : TX K mg) : FnOk P w K mg base CX0 3 X.d_check_word.a X.d_check_word.fd ["tags", "word", "most"] spCheckWord := by
  have nd := sc_check_word.nd
  refine X.d_check_word.F.ok sc_check_word (fun vs H Q E h => ?_) (fun cdv A outer s H vs Q E hr h => ?_)
  · obtain ⟨a, b, tags, wd, most, rfl, _⟩ := h
    rfl
  · obtain ⟨a, b, tags, wd, most, rfl, ha, hb, hz, hin, k⟩ := h
    refine ⟨_, (pss_cons (ps_if (pt_not (pt_val (pe_call (ok_is_list X) (hr.mono (by decide)) rfl X.d_is_list.mg X.d_is_list.F.kp X.d_is_list.b .nil pass0 (pa_cons (pv 1) (pa_cons pe_int (pa_cons (pv 2) pa_nil)))))) (pss_one ps_never) pss_nil) (pss_one (ps_for PassesOwn.never rfl (QB.pi_enumK K (by rfl) X.n_enumerate (pa_cons (pv 1) pa_nil)) (pg_tup (by rfl) (pgs_cons (pg_name (i := 3) nd rfl (Or.inl rfl)) (pgs_cons (pg_name (i := 4) nd rfl (Or.inl rfl)) (pgs_nil)))) (pss_one (ps_if (pt_not (pt_val (pe_call (ok_is_tag X) (hr.mono (by decide)) rfl X.d_is_tag.mg X.d_is_tag.F.kp X.d_is_tag.b .nil pass0 (pa_cons (pv 0) (pa_cons (pv 4) pa_nil))))) (pss_one ps_never) pss_nil))))), ?_⟩
    try dsimp only [Cx.nox, Cx.wish, cxOf]
    refine ⟨_, rfl, _, rfl, b, _, _, _, rfl, hb, _, rfl, ?_⟩
    rw [decide_eq_true (by rw [vS_len]; omega)]
    refine iteF ?_
    refine ⟨_, rfl, _, _, rfl, SqL.of hb, ?_⟩
    refine for_it (walk_enumW (K := K) (a := b) (w := wd)) (fun i σ H' => ∃ v3 v4, σ = [some (.ref a), some (.ref b), some (.int most), v3, v4] ∧ Same H H') ⟨none, none, rfl, Same.refl H⟩ (fun i σ H' _ ⟨_, _, _, s1⟩ => Same.word s1 hb) ?_ ?_
    · rintro i v σ H1 H2 hi ⟨v1, v2, rfl, s1⟩ ⟨tp, t, ht, ntp, rfl, rfl⟩
      have s2 := Same.new s1 (o := .tup [.int (i : Int), .str t]) ntp
      refine ⟨tp, _, rfl, SqT.of upd_same, rfl, _, _, rfl, _, _, rfl, rfl, ?_⟩
      refine ⟨_, rfl, _, rfl, a, tags, t, rfl, Same.word s2 ha, _, rfl, ?_⟩
      rw [decide_eq_true (hin t (List.mem_of_getElem? ht))]
      exact iteF ⟨_, _, rfl, s2⟩
    · rintro σ H1 ⟨v1, v2, rfl, s1⟩
      exact k H1 s1
def spCheckStandings : Sp := fun vs H Q _ => ∃ (a b : Addr) (tags : List Str) (F : Form), vs = [.ref a, .ref b] ∧ WordAt H a tags ∧ FormAt H b F ∧ FormOk tags F ∧ tags.length ≤ 100 ∧ ∀ H', Same H H' → Q .non H'
theorem ok_check_standings (X : TX K mg) : FnOk P w K mg base CX0 4 X.d_check_standings.a X.d_check_standings.fd ["tags", "standings"] spCheckStandings := by
  have nd := sc_check_standings.nd
  refine X.d_check_standings.F.ok sc_check_standings (fun vs H Q E h => ?_) (fun cdv A outer s H vs Q E hr h => ?_)
  · obtain ⟨a, b, tags, F, rfl, _⟩ := h
    rfl
  · obtain ⟨a, b, tags, F, rfl, ha, hF, ok, htl, k⟩ := h
    refine ⟨_, (pss_cons (ps_if (pt_not (pt_val (pe_call (ok_is_list X) (hr.mono (by decide)) rfl X.d_is_list.mg X.d_is_list.F.kp X.d_is_list.b .nil pass0 (pa_cons (pv 1) (pa_cons pe_int (pa_cons (pe_gc rfl X.c_MOST_STANDINGS) pa_nil)))))) (pss_one ps_never) pss_nil) (pss_one (ps_for PassesOwn.never rfl (QB.pi_enumK K (by rfl) X.n_enumerate (pa_cons (pv 1) pa_nil)) (pg_tup (by rfl) (pgs_cons (pg_name (i := 2) nd rfl (Or.inl rfl)) (pgs_cons (pg_name (i := 3) nd rfl (Or.inl rfl)) (pgs_nil)))) (pss_one (ps_if (pt_not (pt_val (pe_call (ok_is_standing X) (hr.mono (by decide)) rfl X.d_is_standing.mg X.d_is_standing.F.kp X.d_is_standing.b .nil pass0 (pa_cons (pv 0) (pa_cons (pe_callB (QB.call_lenK K) (by rfl) X.n_len PySem.boot_len (pa_cons (pv 1) pa_nil)) (pa_cons (pv 3) pa_nil)))))) (pss_one ps_never) pss_nil))))), ?_⟩
    try dsimp only [Cx.nox, Cx.wish, cxOf]
    have o1 := ok.pos
    have o2 := ok.len
    obtain ⟨ts, hts, hpr⟩ := hF
    have htsl := Paired.length hpr
    refine ⟨_, rfl, b, _, _, _, rfl, hts, _, rfl, ?_⟩
    rw [decide_eq_true (by rw [List.length_map]; omega)]
    refine iteF ?_
    refine ⟨_, rfl, _, _, rfl, SqL.of hts, ?_⟩
    refine for_it (walk_enum (K := K) (a := b) (xs := ts.map V.ref)) (fun i σ H' => ∃ v3 v4, σ = [some (.ref a), some (.ref b), v3, v4] ∧ Same H H') ⟨none, none, rfl, Same.refl H⟩ (fun i σ H' _ ⟨_, _, _, s1⟩ => SqL.of (s1 _ _ hts)) ?_ ?_
    · rintro i v σ H1 H2 hi ⟨v1, v2, rfl, s1⟩ ⟨tp, x1, x2, rfl, ntp, rfl, e1, e2⟩
      cases e1
      rw [List.length_map] at hi
      have hti : ts[i]? = some ts[i] := List.getElem?_eq_getElem hi
      have e2 : (ts.map V.ref)[i]? = some x2 := e2
      rw [List.getElem?_map, hti] at e2
      cases e2
      obtain ⟨s, hs, p1, p2, f1, f2, f3⟩ := paired_get' hpr hti
      have s2 := Same.new s1 (o := .tup [.int (i : Int), .ref ts[i]]) ntp
      refine ⟨tp, _, rfl, SqT.of upd_same, rfl, _, _, rfl, _, _, rfl, rfl, ?_⟩
      refine ⟨_, rfl, _, rfl, _, _, rfl, .inl (SqL.of (s2 _ _ hts)), _, rfl, ?_⟩
      refine ⟨a, ts[i], p1, p2, tags, F.length, s, by rw [List.length_map, htsl]; rfl, Same.word s2 ha, s2 _ _ f1, Same.word s2 f2, Same.ways s2 f3, ok.all s (mem_of hs), htl, fun H3 s3 => ⟨_, rfl, ?_⟩⟩
      exact iteF ⟨_, _, rfl, s2.trans s3⟩
    · rintro σ H1 ⟨v1, v2, rfl, s1⟩
      exact k H1 s1
end
end Law
end

section
set_option Elab.async false
set_option linter.all false
set_option maxRecDepth 100000
set_option maxHeartbeats 4000000
namespace Law
open PySem PySem.Spec PyProof.Rows L2 LamX QB QM
section
variable {P : Program} {w : World} {K : PySem.W.Frag} {mg : Str → Option Value} {base : Heap}

theorem wordIns {H : Hp} {x p C dx : Addr} {fs : List (Str × V)} {o : HO} {t : Word} (h : WordAt H p t) (e : H x = some (.ins C dx fs)) : WordAt (upd H x o) p t := Eq.trans (upd_ne (ne_of h e (fun z => nomatch z))) h
theorem formIns {H : Hp} {x p C dx : Addr} {fs : List (Str × V)} {o : HO} {F : Form} (h : FormAt H p F) (e : H x = some (.ins C dx fs)) : FormAt (upd H x o) p F := by
  obtain ⟨ts, h1, h2⟩ := h
  refine ⟨ts, Eq.trans (upd_ne (ne_of h1 e (fun z => nomatch z))) h1, L2.Paired.mapP h2 fun t s q => ?_⟩
  obtain ⟨a, b, q1, q2, q3⟩ := q
  exact ⟨a, b, Eq.trans (upd_ne (ne_of q1 e (fun z => nomatch z))) q1, Eq.trans (upd_ne (ne_of q2 e (fun z => nomatch z))) q2, Eq.trans (upd_ne (ne_of q3 e (fun z => nomatch z))) q3⟩
theorem newIns {H0 H : Hp} {x p C dx : Addr} {fs : List (Str × V)} {o : HO} {L : List Tri} {F : Form} (h : NewF H0 H p L F) (e : H x = some (.ins C dx fs)) : NewF H0 (upd H x o) p L F := by
  refine ⟨Eq.trans (upd_ne (ne_of h.lst e (fun z => nomatch z))) h.lst, ⟨L2.Paired.mapP h.all.at_ fun t s q => ?_, h.all.new, h.all.nd⟩, h.new, h.out⟩
  obtain ⟨q1, q2, q3⟩ := q
  exact ⟨Eq.trans (upd_ne (ne_of q1 e (fun z => nomatch z))) q1, Eq.trans (upd_ne (ne_of q2 e (fun z => nomatch z))) q2, Eq.trans (upd_ne (ne_of q3 e (fun z => nomatch z))) q3⟩

/-- an eater's fields -/
def eatFs (a b : Addr) : List (Str × V) := [("_tags", .ref a), ("_standings", .ref b)]
/-- an eater -/
def EatAt (C : Addr) (H : Hp) (e : Addr) (tags : Word) (G : Form) : Prop := ∃ dx a b, H e = some (.ins C dx (eatFs a b)) ∧ WordAt H a tags ∧ FormAt H b G
theorem EatAt.ext {T : List (Addr × Str)} {C e : Addr} {H H' : Hp} {tags : Word} {G : Form} (h : EatAt C H e tags G) (x : QB.Ext T H H') : EatAt C H' e tags G := by
  obtain ⟨dx, a, b, h1, h2, h3⟩ := h
  exact ⟨dx, a, b, x.get h1, x.word h2, x.form h3⟩
theorem EatAt.same {C e : Addr} {H H' : Hp} {tags : Word} {G : Form} (h : EatAt C H e tags G) (x : Same H H') : EatAt C H' e tags G := h.ext (Ext.of (T := []) x)
/-- a new eater: what it stands on is new -/
structure EatN (C : Addr) (H0 H : Hp) (e dx a b : Addr) (L : List Tri) (tags : Word) (G : Form) : Prop where
  ins : H e = some (.ins C dx (eatFs a b))
  tags : WordAt H a tags
  form : NewF H0 H b L G
  fe : Fresh H0 e
  fa : Fresh H0 a
theorem EatN.at_ {C e dx a b : Addr} {H0 H : Hp} {L : List Tri} {tags : Word} {G : Form} (h : EatN C H0 H e dx a b L tags G) : EatAt C H e tags G := ⟨dx, a, b, h.ins, h.tags, h.form.form⟩
theorem EatN.ext {T : List (Addr × Str)} {C e dx a b : Addr} {H0 H H' : Hp} {L : List Tri} {tags : Word} {G : Form} (h : EatN C H0 H e dx a b L tags G) (x : QB.Ext T H H') : EatN C H0 H' e dx a b L tags G := ⟨x.get h.ins, x.word h.tags, h.form.ext x, h.fe, h.fa⟩

def spInit (T : List (Addr × Str)) (C : Addr) : Sp := fun vs H Q _ => ∃ (x dx a b : Addr) (tags : Word) (F : Form) (H0 : Hp), vs = [.ref x, .ref a, .ref b] ∧ H x = some (.ins C dx []) ∧ WordAt H a tags ∧ FormAt H b F ∧ TagsOk tags ∧ FormOk tags F ∧ Tabs T H ∧ QB.Ext T H0 H ∧ Fresh H0 x ∧
  ∀ (a' b' : Addr) (L : List Tri) (H' : Hp), QB.Ext T H0 H' → Tabs T H' → EatN C H0 H' x dx a' b' L tags (least tags F) → Q .non H'
theorem ok_Eater___init__ (X : TX K mg) (TB : LamX.TabB base mg X.lam_c X.lam_P) : FnOk P w K mg base CX0 5 X.d_Eater___init__.a X.d_Eater___init__.fd ["self", "tags", "standings"] (spInit (Tof X) X.c_Eater) := by
  have nd := sc_Eater___init__.nd
  refine X.d_Eater___init__.F.ok sc_Eater___init__ (fun vs H Q E h => ?_) (fun cdv A outer s H vs Q E hr h => ?_)
  · obtain ⟨x, dx, a, b, tags, F, H0, rfl, _⟩ := h
    rfl
  · obtain ⟨x, dx, a, b, tags, F, H0, rfl, hx, ha, hb, to, fo, tb, e0, fx, k⟩ := h
    refine ⟨_, (pss_cons (ps_expr (pe_call (ok_check_tags X) (hr.mono (by decide)) rfl X.d_check_tags.mg X.d_check_tags.F.kp X.d_check_tags.b .nil pass0 (pa_cons (pv 1) pa_nil))) (pss_cons (ps_expr (pe_call (ok_check_standings X) (hr.mono (by decide)) rfl X.d_check_standings.mg X.d_check_standings.F.kp X.d_check_standings.b .nil pass0 (pa_cons (pv 1) (pa_cons (pv 2) pa_nil)))) (pss_cons (ps_fld (pv 0) (pe_callTy (QB.call_listK K) (by rfl) X.n_list QB.bo_list (pa_cons (pv 1) pa_nil)) rfl) (pss_one (ps_fld (pv 0) (pe_call (ok_least_form X TB) (hr.mono (by decide)) rfl X.d_least_form.mg X.d_least_form.F.kp X.d_least_form.b .nil pass0 (pa_cons (pv 1) (pa_cons (pv 2) pa_nil))) rfl))))), ?_⟩
    try dsimp only [Cx.nox, Cx.wish, cxOf]
    have htl := to.len
    refine ⟨_, rfl, a, tags, rfl, ha, to, fun H1 s1 => ?_⟩
    refine ⟨_, rfl, _, rfl, a, b, tags, F, rfl, Same.word s1 ha, Same.form s1 hb, fo, by omega, fun H2 s2 => ?_⟩
    have s12 := s1.trans s2
    refine ⟨_, rfl, ?_⟩
    dsimp only [tNil]
    refine ⟨_, _, rfl, .inl (SqL.of (Same.word s12 ha)), fun l hl => ?_⟩
    have sA : Same H (upd H2 l (.lst (vS tags))) := Same.new s12 hl
    have hxA := sA _ _ hx
    refine ⟨_, rfl, x, _, _, _, rfl, hxA, X.cl_Eater, X.na_Eater__tags, by decide, ?_⟩
    have haA : WordAt (upd H2 l (.lst (vS tags))) l tags := upd_same
    generalize upd H2 l (.lst (vS tags)) = HA at sA hxA haA ⊢
    have eB := (e0.trans (.of sA)).mut (o := .ins X.c_Eater dx [("_tags", .ref l)]) fx hxA
    have tB := tabs_mut (o := .ins X.c_Eater dx [("_tags", .ref l)]) (tb.ext sA) hxA True.intro
    refine ⟨_, rfl, _, rfl, a, b, tags, F, rfl, wordIns (Same.word sA ha) hxA, formIns (Same.form sA hb) hxA, fo.good, fo.words to, by omega, tB, fun p L H3 e3 t3 n3 => ?_⟩
    have hx3 := e3.get (p := x) upd_same
    refine ⟨_, rfl, x, _, _, _, rfl, hx3, X.cl_Eater, X.na_Eater__standings, by show (1 : Nat) < 1000; omega, ?_⟩
    exact k l p L _ ((eB.trans e3).mut fx hx3) (tabs_mut t3 hx3 True.intro) ⟨upd_same, wordIns (e3.word (wordIns haA hxA)) hx3, newIns (n3.old eB) hx3, fx, e0.fresh (.of (s12.free hl))⟩

def spLenE (C : Addr) : Sp := fun vs H Q _ => ∃ (e : Addr) (tags : Word) (G : Form), vs = [.ref e] ∧ EatAt C H e tags G ∧ Q (.int (G.length : Int)) H
theorem ok_Eater___len__ (X : TX K mg) : FnOk P w K mg base CX0 1 X.d_Eater___len__.a X.d_Eater___len__.fd ["self"] (spLenE X.c_Eater) := by
  have nd := sc_Eater___len__.nd
  refine X.d_Eater___len__.F.ok sc_Eater___len__ (fun vs H Q E h => ?_) (fun cdv A outer s H vs Q E hr h => ?_)
  · obtain ⟨e, tags, G, rfl, _⟩ := h
    rfl
  · obtain ⟨e, tags, G, rfl, ⟨dx, a, b, he, ha, hb⟩, k⟩ := h
    refine ⟨_, (pss_one (ps_ret (pe_callB (QB.call_lenK K) (by rfl) X.n_len PySem.boot_len (pa_cons (QB.pe_fldK K (pv 0) rfl) pa_nil)))), ?_⟩
    try dsimp only [Cx.nox, Cx.wish, cxOf]
    obtain ⟨vs, h1, h2⟩ := FormAt.lst hb
    refine ⟨_, rfl, e, _, _, _, _, rfl, he, X.cl_Eater, X.na_Eater__standings, rfl, ?_⟩
    dsimp only [tNil]
    refine ⟨_, _, rfl, .inl (SqL.of h1), ?_⟩
    rw [h2]
    exact k
def spTagsE (C : Addr) : Sp := fun vs H Q _ => ∃ (e : Addr) (tags : Word) (G : Form), vs = [.ref e] ∧ EatAt C H e tags G ∧ ∀ p, H p = none → Q (.ref p) (upd H p (.lst (vS tags)))
theorem ok_Eater_tags (X : TX K mg) : FnOk P w K mg base CX0 1 X.d_Eater_tags.a X.d_Eater_tags.fd ["self"] (spTagsE X.c_Eater) := by
  have nd := sc_Eater_tags.nd
  refine X.d_Eater_tags.F.ok sc_Eater_tags (fun vs H Q E h => ?_) (fun cdv A outer s H vs Q E hr h => ?_)
  · obtain ⟨e, tags, G, rfl, _⟩ := h
    rfl
  · obtain ⟨e, tags, G, rfl, ⟨dx, a, b, he, ha, hb⟩, k⟩ := h
    refine ⟨_, (pss_one (ps_ret (pe_callTy (QB.call_listK K) (by rfl) X.n_list QB.bo_list (pa_cons (QB.pe_fldK K (pv 0) rfl) pa_nil)))), ?_⟩
    try dsimp only [Cx.nox, Cx.wish, cxOf]
    refine ⟨_, rfl, e, _, _, _, _, rfl, he, X.cl_Eater, X.na_Eater__tags, rfl, ?_⟩
    dsimp only [tNil]
    exact ⟨_, _, rfl, .inl (SqL.of ha), k⟩
def spStandingsE (C : Addr) : Sp := fun vs H Q _ => ∃ (e : Addr) (tags : Word) (G : Form), vs = [.ref e] ∧ EatAt C H e tags G ∧ G.length ≤ 10000 ∧ ∀ (p : Addr) (L : List Tri) (H' : Hp), Same H H' → NewF H H' p L G → Q (.ref p) H'
theorem ok_Eater_standings (X : TX K mg) : FnOk P w K mg base CX0 2 X.d_Eater_standings.a X.d_Eater_standings.fd ["self"] (spStandingsE X.c_Eater) := by
  have nd := sc_Eater_standings.nd
  refine X.d_Eater_standings.F.ok sc_Eater_standings (fun vs H Q E h => ?_) (fun cdv A outer s H vs Q E hr h => ?_)
  · obtain ⟨e, tags, G, rfl, _⟩ := h
    rfl
  · obtain ⟨e, tags, G, rfl, ⟨dx, a, b, he, ha, hb⟩, hz, k⟩ := h
    refine ⟨_, (pss_one (ps_ret (pe_call (ok_copied X) (hr.mono (by decide)) rfl X.d_copied.mg X.d_copied.F.kp X.d_copied.b .nil pass0 (pa_cons (QB.pe_fldK K (pv 0) rfl) pa_nil)))), ?_⟩
    try dsimp only [Cx.nox, Cx.wish, cxOf]
    refine ⟨_, rfl, e, _, _, _, _, rfl, he, X.cl_Eater, X.na_Eater__standings, rfl, ?_⟩
    dsimp only [tNil]
    exact ⟨b, G, rfl, hb, hz, k⟩
def spOnE (C : Addr) : Sp := fun vs H Q _ => ∃ (e c : Addr) (tags : Word) (G : Form) (wd : Word), vs = [.ref e, .ref c] ∧ EatAt C H e tags G ∧ WordAt H c wd ∧ Good tags G ∧ (∀ t ∈ wd, t ∈ tags) ∧ wd.length ≤ 200 ∧ (∀ s ∈ G, s.1.length ≤ 10000) ∧
  ∀ (p : Addr) (H' : Hp), Same H H' → H p = none → H' p = some (.lst (vS (make tags G wd))) → Q (.ref p) H'
theorem ok_Eater_on (X : TX K mg) : FnOk P w K mg base CX0 4 X.d_Eater_on.a X.d_Eater_on.fd ["self", "subject"] (spOnE X.c_Eater) := by
  have nd := sc_Eater_on.nd
  refine X.d_Eater_on.F.ok sc_Eater_on (fun vs H Q E h => ?_) (fun cdv A outer s H vs Q E hr h => ?_)
  · obtain ⟨e, c, tags, G, wd, rfl, _⟩ := h
    rfl
  · obtain ⟨e, c, tags, G, wd, rfl, ⟨dx, a, b, he, ha, hb⟩, hw, g, hin, hz, hz2, k⟩ := h
    refine ⟨_, (pss_cons (ps_expr (pe_call (ok_check_word X) (hr.mono (by decide)) rfl X.d_check_word.mg X.d_check_word.F.kp X.d_check_word.b .nil pass0 (pa_cons (QB.pe_fldK K (pv 0) rfl) (pa_cons (pv 1) (pa_cons (pe_gc rfl X.c_LONGEST_SUBJECT) pa_nil))))) (pss_one (ps_ret (pe_call (ok_made X) (hr.mono (by decide)) rfl X.d_made.mg X.d_made.F.kp X.d_made.b .nil pass0 (pa_cons (QB.pe_fldK K (pv 0) rfl) (pa_cons (QB.pe_fldK K (pv 0) rfl) (pa_cons (pv 1) pa_nil))))))), ?_⟩
    try dsimp only [Cx.nox, Cx.wish, cxOf]
    refine ⟨_, rfl, ⟨e, _, _, _, _, rfl, he, X.cl_Eater, X.na_Eater__tags, rfl, ?_⟩⟩
    refine ⟨_, rfl, ?_⟩
    refine ⟨a, c, tags, wd, 200, rfl, ha, hw, by omega, hin, fun H1 s1 => ?_⟩
    refine ⟨_, rfl, e, _, _, _, _, rfl, s1 _ _ he, X.cl_Eater, X.na_Eater__tags, rfl, ?_⟩
    refine ⟨_, rfl, e, _, _, _, _, rfl, s1 _ _ he, X.cl_Eater, X.na_Eater__standings, rfl, ?_⟩
    refine ⟨_, rfl, ?_⟩
    exact ⟨a, b, c, tags, G, wd, rfl, Same.word s1 ha, Same.form s1 hb, Same.word s1 hw, g, hin, by omega, hz2, fun p H2 s2 n2 h2 => k p H2 (s1.trans s2) (s1.free n2) h2⟩
def spEqE (K : PySem.W.Frag) (C : Addr) : Sp := fun vs H Q _ => ∃ (e : Addr) (y : V) (tags : Word) (G : Form), vs = [.ref e, y] ∧ EatAt C H e tags G ∧ OkWord tags ∧ OkForm G ∧
  ((∃ (f : Addr) (tags2 : Word) (G2 : Form), y = .ref f ∧ EatAt C H f tags2 G2 ∧ OkWord tags2 ∧ OkForm G2 ∧ Q (.bl (decide (tags = tags2) && decide (G = G2))) H) ∨
   (∃ t, TyOf K H y t ∧ PySem.W.kitOne K t (.ref C) = some false ∧ Q (.bl false) H))
theorem ok_Eater___eq__ (X : TX K mg) : FnOk P w K mg base CX0 1 X.d_Eater___eq__.a X.d_Eater___eq__.fd ["self", "other"] (spEqE K X.c_Eater) := by
  have nd := sc_Eater___eq__.nd
  refine X.d_Eater___eq__.F.ok sc_Eater___eq__ (fun vs H Q E h => ?_) (fun cdv A outer s H vs Q E hr h => ?_)
  · obtain ⟨e, y, tags, G, rfl, _⟩ := h
    rfl
  · obtain ⟨e, y, tags, G, rfl, ⟨dx, a, b, he, ha, hb⟩, ot, oG, k⟩ := h
    refine ⟨_, (pss_cons (ps_if (pt_not (pt_val (pe_callB (QB.call_isiK K) (by rfl) X.n_isinstance QB.bo_isinstance (pa_cons (pv 1) (pa_cons (pe_glob (v := .ref X.c_Eater) rfl X.m_Eater rfl) pa_nil))))) (pss_one (ps_ret pe_bl)) pss_nil) (pss_one (ps_ret (pe_and (pe_cmpR (QB.op_eqDK K hr.units) (QB.pe_fldK K (pv 0) rfl) (QB.pe_fldK K (pv 1) rfl) (nomark _)) (pe_one (pe_cmpR (QB.op_eqDK K hr.units) (QB.pe_fldK K (pv 0) rfl) (QB.pe_fldK K (pv 1) rfl) (nomark _))))))), ?_⟩
    try dsimp only [Cx.nox, Cx.wish, cxOf]
    rcases k with ⟨f, tags2, G2, rfl, ⟨dx2, a2, b2, hf, ha2, hb2⟩, ot2, oG2, q⟩ | ⟨t, ht, hk, q⟩
    · refine ⟨_, rfl, ?_⟩
      dsimp only [tNil, tCons]
      refine ⟨_, _, _, _, true, rfl, .own _, .base (X.oc_Eater.ty X.cl_Eater hf), QO.OwnC.self, true, rfl, ?_⟩
      refine iteF ?_
      refine ⟨_, rfl, e, _, _, _, _, rfl, he, X.cl_Eater, X.na_Eater__tags, rfl, ?_⟩
      refine ⟨_, rfl, f, _, _, _, _, rfl, hf, X.cl_Eater, X.na_Eater__tags, rfl, ?_⟩
      refine eq_wd ha ha2 ot ot2 ?_
      refine ⟨_, rfl, ?_⟩
      by_cases z : tags = tags2
      · rw [decide_eq_true z] at q ⊢
        refine iteT ?_
        refine ⟨_, rfl, e, _, _, _, _, rfl, he, X.cl_Eater, X.na_Eater__standings, rfl, ?_⟩
        refine ⟨_, rfl, f, _, _, _, _, rfl, hf, X.cl_Eater, X.na_Eater__standings, rfl, ?_⟩
        exact eq_form hb hb2 oG oG2 q
      · rw [decide_eq_false z] at q ⊢
        exact iteF q
    · refine ⟨_, rfl, ?_⟩
      dsimp only [tNil, tCons]
      refine ⟨_, _, _, _, false, rfl, .own _, .base ht, hk, false, rfl, ?_⟩
      exact iteT q
end
end Law
end

section
set_option Elab.async false
set_option linter.all false
set_option maxRecDepth 100000
set_option maxHeartbeats 4000000
namespace Law
open PySem PySem.Spec PyProof.Rows L2 LamX QB QM
section
variable {P : Program} {w : World} {K : PySem.W.Frag} {mg : Str → Option Value} {base : Heap}

/-! ### what stays, but for some lists -/
def Exc (M : List Addr) (H H' : Hp) : Prop := ∀ a o, a ∉ M → H a = some o → H' a = some o
theorem Exc.refl {M : List Addr} {H : Hp} : Exc M H H := fun _ _ _ h => h
theorem Exc.trans {M : List Addr} {H H1 H2 : Hp} (a : Exc M H H1) (b : Exc M H1 H2) : Exc M H H2 := fun c o n h => b c o n (a c o n h)
theorem Exc.of {M : List Addr} {H H' : Hp} (a : Same H H') : Exc M H H' := fun c o _ h => a c o h
theorem Exc.mono {M N : List Addr} {H H' : Hp} (a : Exc M H H') (h : ∀ x ∈ M, x ∈ N) : Exc N H H' := fun c o n e => a c o (fun z => n (h c z)) e
theorem Exc.new {M : List Addr} {H H' : Hp} {p : Addr} {o : HO} (a : Exc M H H') (h : H' p = none) : Exc M H (upd H' p o) := a.trans (.of (same_new h))
theorem Exc.mut {M : List Addr} {H H' : Hp} {p : Addr} {o : HO} (a : Exc M H H') (h : p ∈ M ∨ H p = none) : Exc M H (upd H' p o) := fun c u n e => by
  have : c ≠ p := fun z => by
    subst z
    rcases h with h | h
    · exact n h
    · rw [h] at e
      cases e
  rw [upd_ne this]
  exact a c u n e
theorem Exc.free {M : List Addr} {H H' : Hp} {p : Addr} (a : Exc M H H') (h : H' p = none) (n : p ∉ M) : H p = none := by
  cases e : H p with
  | none => rfl
  | some o =>
    rw [a p o n e] at h
    cases h
/-- the pile of draws -/
def PileAt (H : Hp) (p : Addr) : Prop := ∃ d c n : Int, H p = some (.lst [.int d, .int c, .int n])
theorem PileAt.free {H H' : Hp} {p q : Addr} (a : Exc [p] H H') (h : PileAt H p) (h' : PileAt H' p) (e : H' q = none) : H q = none := by
  have : q ≠ p := fun z => by
    subst z
    obtain ⟨_, _, _, h⟩ := h'
    rw [h] at e
    cases e
  exact a.free e (by simpa using this)

def spMixed : Sp := fun vs H Q _ => ∃ c k : Int, vs = [.int c, .int k] ∧ ∀ r : Int, Q (.int r) H
theorem emod_lt {i j : Int} (h : 0 < j) : 0 ≤ i % j ∧ i % j < j := ⟨Int.emod_nonneg i (by omega), Int.emod_lt_of_pos i h⟩
theorem ok__law_mixed (X : TX K mg) : FnOk P w K mg base CX0 1 X.d__law_mixed.a X.d__law_mixed.fd ["cell", "k"] spMixed := by
  have nd := sc__law_mixed.nd
  refine X.d__law_mixed.F.ok sc__law_mixed (fun vs H Q E h => ?_) (fun cdv A outer s H vs Q E hr h => ?_)
  · obtain ⟨c, k, rfl, _⟩ := h
    rfl
  · obtain ⟨c, k, rfl, q⟩ := h
    refine ⟨_, (pss_cons (ps_set (i := 2) nd rfl (Or.inl rfl) (pe_op op_mod (pe_op op_add (pe_op op_add (pe_op op_mul (pe_op op_mod (pe_callTy call_int1 (by rfl) X.n_int QB.bo_int (pa_cons (pv 0) pa_nil)) pe_int) pe_int) (pe_op op_mul (pv 1) pe_int)) pe_int) pe_int)) (pss_cons (ps_set (i := 2) nd rfl (Or.inl rfl) (pe_op op_mod (pe_op op_mul (pv 2) (pv 2)) pe_int)) (pss_one (ps_ret (pe_op op_fdiv (pe_op op_mod (pe_op op_mul (pv 2) (pv 2)) pe_int) pe_int))))), ?_⟩
    try dsimp only [Cx.nox, Cx.wish, cxOf]
    have m1 : (0 : Int) < 2147483647 := by decide
    have m2 : (0 : Int) < 2147483629 := by decide
    have m3 : (0 : Int) < 2147483587 := by decide
    refine ⟨_, rfl, .inl ⟨_, rfl, _, _, rfl, rfl, m1, _, _, rfl, rfl, .inr ⟨by decide, by decide⟩, _, rfl, _, _, rfl, rfl, .inr ⟨by decide, by decide⟩, _, _, rfl, rfl, _, _, rfl, rfl, _, _, rfl, rfl, m1, ?_⟩⟩
    refine ⟨_, rfl, _, rfl, _, _, rfl, rfl, ?_, _, _, rfl, rfl, m2, ?_⟩
    · have := emod_lt (i := c % 2147483647 * 48271 + k * 69621 + 11) m1
      refine .inl ⟨?_, ?_⟩ <;> omega
    refine ⟨_, rfl, _, rfl, _, _, rfl, rfl, ?_, _, _, rfl, rfl, m3, ?_⟩
    · have := emod_lt (i := (c % 2147483647 * 48271 + k * 69621 + 11) % 2147483647 * ((c % 2147483647 * 48271 + k * 69621 + 11) % 2147483647)) m2
      refine .inl ⟨?_, ?_⟩ <;> omega
    exact ⟨_, _, rfl, rfl, ⟨by decide, by decide⟩, q _⟩
theorem mul50 : CMulW ((10 : Int) ^ Int.toNat 50) ((10 : Int) ^ Int.toNat 50) := wide_mul (a := 200) (b := 200) (by decide +kernel) (by decide +kernel) (by decide) (by decide) (by decide)
theorem mul100 : CMulW ((10 : Int) ^ Int.toNat 50 * (10 : Int) ^ Int.toNat 50) ((10 : Int) ^ Int.toNat 50) := wide_mul (a := 400) (b := 200) (by decide +kernel) (by decide +kernel) (by decide) (by decide) (by decide)
theorem pos150 : (0 : Int) < (10 : Int) ^ Int.toNat 50 * (10 : Int) ^ Int.toNat 50 * (10 : Int) ^ Int.toNat 50 := by decide +kernel
def spPile (K : PySem.W.Frag) : Sp := fun vs H Q _ => ∃ (l : Addr) (ns : List Int) (k : Nat), vs = [.ref l, .int (k : Int)] ∧ SqL K H l (ns.map V.int) ∧ ∀ (p : Addr) (H' : Hp), Same H H' → H p = none → PileAt H' p → Q (.ref p) H'
theorem ok__law_pile (X : TX K mg) : FnOk P w K mg base CX0 3 X.d__law_pile.a X.d__law_pile.fd ["script", "k"] (spPile K) := by
  have nd := sc__law_pile.nd
  refine X.d__law_pile.F.ok sc__law_pile (fun vs H Q E h => ?_) (fun cdv A outer s H vs Q E hr h => ?_)
  · obtain ⟨l, ns, k, rfl, _⟩ := h
    rfl
  · obtain ⟨l, ns, k, rfl, hl, q⟩ := h
    refine ⟨_, (pss_cons (ps_set (i := 2) nd rfl (Or.inl rfl) pe_int) (pss_cons (ps_if (pt_cmpR op_lt (pv 1) (pe_callB (QB.call_lenK K) (by rfl) X.n_len PySem.boot_len (pa_cons (pv 0) pa_nil)) (nomark _)) (pss_one (ps_set (i := 2) nd rfl (Or.inl rfl) (pe_ix (QB.ix_listK K) (pv 0) (pv 1) (fun _ _ => rfl)))) pss_nil) (pss_cons (ps_set (i := 3) nd rfl (Or.inl rfl) (pe_op op_mod (pe_callTy call_int1 (by rfl) X.n_int QB.bo_int (pa_cons (pv 2) pa_nil)) (pe_op op_mulW (pe_op op_mulW (pe_op op_pow pe_int pe_int) (pe_op op_pow pe_int pe_int)) (pe_op op_pow pe_int pe_int)))) (pss_one (ps_ret (pe_lst (pa_cons (pe_op op_mul (pv 3) (pe_callTy call_int1 (by rfl) X.n_int QB.bo_int (pa_cons (pe_cmpR op_ge (pe_callB call_abs (by rfl) X.n_abs QB.bo_abs (pa_cons (pv 2) pa_nil)) (pe_op op_pow pe_int pe_int) (nomark _)) pa_nil))) (pa_cons (pe_op op_mod (pe_callTy call_int1 (by rfl) X.n_int QB.bo_int (pa_cons (pv 2) pa_nil)) pe_int) (pa_cons (pe_op op_mul pe_int (pv 1)) pa_nil))))))))), ?_⟩
    try dsimp only [Cx.nox, Cx.wish, cxOf]
    refine ⟨_, rfl, _, rfl, _, _, rfl, .inl hl, ?_⟩
    refine ⟨_, _, rfl, rfl, _, rfl, ?_⟩
    by_cases hj : k < ns.length
    case' pos =>
      rw [decide_eq_true (by rw [List.length_map]; omega)]
      refine iteT ?_
      refine ⟨_, rfl, _, rfl, l, ns.map V.int, (k : Int), _, rfl, rfl, hl, atI_nat (v := V.int (ns[k]'hj)) (by rw [List.getElem?_map, List.getElem?_eq_getElem hj]; rfl), ?_⟩
      generalize ns[k]'hj = c
    case' neg =>
      rw [decide_eq_false (by rw [List.length_map]; omega)]
      refine iteF ?_
    all_goals
      refine ⟨_, rfl, .inl ⟨_, rfl, ?_⟩⟩
      refine ⟨_, _, rfl, rfl, ⟨by decide, by decide, by decide⟩, _, _, rfl, rfl, ⟨by decide, by decide, by decide⟩, _, _, rfl, rfl, mul50, _, _, rfl, rfl, ⟨by decide, by decide, by decide⟩, _, _, rfl, rfl, mul100, _, _, rfl, rfl, pos150, ?_⟩
      refine ⟨_, rfl, _, rfl, _, rfl, _, _, rfl, rfl, ⟨by decide, by decide, by decide⟩, _, _, rfl, rfl, .inr ⟨_, rfl, ?_⟩⟩
      generalize decide ((10 : Int) ^ Int.toNat 18 ≤ _) = bb
      cases bb <;>
      · refine ⟨_, _, rfl, rfl, .inr ⟨by decide, by decide⟩, ?_⟩
        refine ⟨_, rfl, .inl ⟨_, rfl, _, _, rfl, rfl, by show (0 : Int) < 2147483647; decide, _, rfl, _, _, rfl, rfl, .inl ⟨by decide, by decide⟩, by show 3 ≤ sizeLine; decide, fun p hp => ?_⟩⟩
        exact q p _ (same_new hp) hp ⟨_, _, _, upd_same⟩
def spTake : Sp := fun vs H Q _ => ∃ (p : Addr) (m : Nat), vs = [.ref p, .int (m : Int)] ∧ 0 < m ∧ m ≤ 1000 ∧ PileAt H p ∧ ∀ (r : Nat) (H' : Hp), r < m → Exc [p] H H' → PileAt H' p → Q (.int (r : Int)) H'
theorem nat_of_mod {i : Int} {m : Nat} (h : 0 < m) : ∃ r : Nat, r < m ∧ i % (m : Int) = (r : Int) := by
  have := emod_lt (i := i) (show (0 : Int) < (m : Int) by omega)
  exact ⟨(i % (m : Int)).toNat, by omega, by omega⟩
theorem ok__law_take (X : TX K mg) : FnOk P w K mg base CX0 3 X.d__law_take.a X.d__law_take.fd ["pile", "many"] spTake := by
  have nd := sc__law_take.nd
  refine X.d__law_take.F.ok sc__law_take (fun vs H Q E h => ?_) (fun cdv A outer s H vs Q E hr h => ?_)
  · obtain ⟨p, m, rfl, _⟩ := h
    rfl
  · obtain ⟨p, m, rfl, m0, m1, ⟨d, c, n, hp⟩, q⟩ := h
    refine ⟨_, (pss_cons (ps_if (pt_cmpR op_eq (pe_ix (QB.ix_listK K) (pv 0) pe_int (fun _ _ => rfl)) pe_int (nomark _)) (pss_cons (ps_asg (pe_op op_add (pe_ix (QB.ix_listK K) (pv 0) pe_int (fun _ _ => rfl)) pe_int) (pg_sub (pv 0) pe_int set_list)) (pss_one (ps_ret (pe_op op_mod (pe_call (ok__law_mixed X) (hr.mono (by decide)) rfl X.d__law_mixed.mg X.d__law_mixed.F.kp X.d__law_mixed.b .nil pass0 (pa_cons (pe_ix (QB.ix_listK K) (pv 0) pe_int (fun _ _ => rfl)) (pa_cons (pe_ix (QB.ix_listK K) (pv 0) pe_int (fun _ _ => rfl)) pa_nil))) (pv 1))))) pss_nil) (pss_cons (ps_set (i := 2) nd rfl (Or.inl rfl) (pe_op op_mod (pe_callTy call_int1 (by rfl) X.n_int QB.bo_int (pa_cons (pe_ix (QB.ix_listK K) (pv 0) pe_int (fun _ _ => rfl)) pa_nil)) (pv 1))) (pss_cons (ps_asg (pe_op op_fdiv (pe_ix (QB.ix_listK K) (pv 0) pe_int (fun _ _ => rfl)) (pv 1)) (pg_sub (pv 0) pe_int set_list)) (pss_one (ps_ret (pv 2)))))), ?_⟩
    try dsimp only [Cx.nox, Cx.wish, cxOf]
    refine ⟨_, rfl, p, _, _, _, rfl, rfl, SqL.of hp, rfl, ?_⟩
    refine ⟨rfl, _, rfl, ?_⟩
    generalize decide (V.int d = V.int 0) = bb
    cases bb
    · refine iteF ?_
      refine ⟨_, rfl, p, _, _, _, rfl, rfl, SqL.of hp, rfl, .inl ⟨_, rfl, ?_⟩⟩
      obtain ⟨r, hr1, hr2⟩ := nat_of_mod (i := d) m0
      refine ⟨_, rfl, _, _, rfl, rfl, by show (0 : Int) < m; omega, ?_⟩
      refine ⟨_, rfl, p, _, _, _, rfl, rfl, SqL.of hp, rfl, _, rfl, _, _, rfl, rfl, ⟨by omega, by omega⟩, ?_⟩
      refine ⟨_, rfl, p, _, _, 0, rfl, rfl, hp, rfl, _, rfl, ?_⟩
      show Q (.int (d % (m : Int))) _
      rw [hr2]
      exact q r _ hr1 (Exc.refl.mut (.inl (by simp))) ⟨_, _, _, upd_same⟩
    · refine iteT ?_
      refine ⟨_, rfl, p, _, _, _, rfl, rfl, SqL.of hp, rfl, _, _, rfl, rfl, ?_⟩
      refine ⟨_, rfl, p, _, _, 2, rfl, rfl, hp, rfl, ?_⟩
      generalize hH2 : upd H p _ = H2
      have hp2 : H2 p = some (.lst [V.int d, V.int c, V.int (n + 1)]) := by rw [← hH2]; exact upd_same
      have s2 : Exc [p] H H2 := by rw [← hH2]; exact Exc.refl.mut (.inl (by simp))
      refine ⟨_, rfl, p, _, _, _, rfl, rfl, SqL.of hp2, rfl, ?_⟩
      refine ⟨_, rfl, p, _, _, _, rfl, rfl, SqL.of hp2, rfl, ?_⟩
      refine ⟨_, _, rfl, fun r0 => ?_⟩
      obtain ⟨r, hr1, hr2⟩ := nat_of_mod (i := r0) m0
      refine ⟨_, rfl, _, _, rfl, rfl, by show (0 : Int) < m; omega, ?_⟩
      show Q (.int (r0 % (m : Int))) H2
      rw [hr2]
      exact q r _ hr1 s2 ⟨_, _, _, hp2⟩
end
end Law
end

section
set_option Elab.async false
set_option linter.all false
set_option maxRecDepth 100000
/-! Qtext: texts by their signs. -/
namespace QT
open PySem PySem.Spec PyProof.Rows L2 TL
theorem tl_cutL (z : Str) (k : Nat) : tl (cutS z none (some (k : Int))) = (tl z).take k := by
  unfold cutS
  rw [HT.sIx_nat, HT.sIx_none, List.drop_zero, Nat.sub_zero, tl_mk]
  show _ = z.cps.toList.take k
  have e : z.length = z.cps.toList.length := len_tl z
  by_cases h : k ≤ z.length
  · rw [Nat.min_eq_left h]
  · rw [Nat.min_eq_right (by omega), List.take_of_length_le (by omega), List.take_of_length_le (by omega)]
theorem tl_cutR (z : Str) (k : Nat) : tl (cutS z (some (k : Int)) none) = (tl z).drop k := by
  unfold cutS
  rw [HT.sIx_nat, HT.sIx_none, tl_mk]
  show _ = z.cps.toList.drop k
  have e : z.length = z.cps.toList.length := len_tl z
  by_cases h : k ≤ z.length
  · rw [Nat.min_eq_left h, List.take_of_length_le (by rw [List.length_drop]; omega)]
  · rw [Nat.min_eq_right (by omega), List.drop_eq_nil_of_le (by omega), List.drop_eq_nil_of_le (by omega), List.take_nil]
theorem joinL_nil : ∀ l : List (List Nat), joinL [] l = l.flatten
  | [] => rfl
  | [p] => by simp [joinL]
  | p :: q :: r => by
    rw [joinL, joinL_nil (q :: r)]
    simp
theorem tl_join0 (ys : List Str) : tl (Txt.join Str.empty ys) = (ys.map tl).flatten := by
  rw [join_eq, tl_join]
  exact joinL_nil _
/-- the letters -/
def abc : Str := "abcdefghijklmnopqrstuvwxyz"
theorem abc_len : abc.length = 26 := by decide +kernel
theorem abc_tl : tl abc = (List.range 26).map (97 + ·) := by decide +kernel
theorem abc_mem {c : Nat} : c ∈ tl abc ↔ 97 ≤ c ∧ c < 123 := by
  rw [abc_tl, List.mem_map]
  constructor
  · rintro ⟨i, hi, rfl⟩
    rw [List.mem_range] at hi
    omega
  · rintro ⟨h1, h2⟩
    exact ⟨c - 97, List.mem_range.mpr (by omega), by omega⟩
theorem abc_at {i : Nat} (h : i < 26) : abc.cps[i]? = some (97 + i) := by
  have e : (tl abc)[i]? = some (97 + i) := by
    rw [abc_tl, List.getElem?_map, List.getElem?_range h]
    rfl
  rw [← e]
  simp [tl]
theorem abc_item {i : Int} (h0 : 0 ≤ i) (h : i < 26) : abc.cps[i.toNat]? = some (97 + i.toNat) := abc_at (by omega)
/-- a sign within fixed ones -/
theorem mid_inj {A B T T' : List Nat} {c d : Nat} (h : A ++ [c] ++ B ++ T = A ++ [d] ++ B ++ T') : c = d := by
  have e := congrArg (fun l : List Nat => l[A.length]?) h
  simpa using e
end QT
end

section
set_option Elab.async false
set_option linter.all false
set_option maxRecDepth 100000
set_option maxHeartbeats 4000000
namespace Law
open PySem PySem.Spec PyProof.Rows L2 LamX QB QM TL QT
section
variable {P : Program} {w : World} {K : PySem.W.Frag} {mg : Str → Option Value} {base : Heap}
theorem PileAt.upd {H : Hp} {p q : Addr} {o : HO} (h : PileAt H p) (n : p ≠ q) : PileAt (L2.upd H q o) p := by
  obtain ⟨d, c, k, e⟩ := h
  exact ⟨d, c, k, (upd_ne n).trans e⟩
theorem PileAt.ne {H : Hp} {p q : Addr} (h : PileAt H p) (n : H q = none) : p ≠ q := fun z => by
  subst z
  obtain ⟨_, _, _, e⟩ := h
  rw [n] at e
  cases e
theorem PileAt.same {H H' : Hp} {p : Addr} (h : PileAt H p) (s : Same H H') : PileAt H' p := by
  obtain ⟨d, c, k, e⟩ := h
  exact ⟨d, c, k, s _ _ e⟩
theorem sum_ones : ∀ l : List Nat, ((l.map fun y => (⟨#[97 + y]⟩ : Str)).map (·.length)).sum = l.length
  | [] => rfl
  | y :: l => by
    rw [List.map_cons, List.map_cons, List.sum_cons, sum_ones l, List.length_cons]
    show 1 + l.length = l.length + 1
    omega
def paces : List Nat := [1, 3, 5, 7, 9, 11, 15, 17, 19, 21, 23, 25]
def plains : Word := ["re", "fwd", "list", "aw", "r", "ext", "re", "fwd", "list", "aw", "r"]
theorem paces_inj : ∀ c ∈ paces, ∀ sh < 26, ∀ i < 6, ∀ j < 6, 97 + (sh + c * i) % 26 = 97 + (sh + c * j) % 26 → i = j := by decide +kernel
theorem plains_nd : ∀ k < 6, ∀ m < 7, ((plains.drop k).take m).Nodup := by decide +kernel
theorem plains_len : ∀ k < 6, ∀ m < 7, m ≤ 5 ∨ k ≤ 5 → ((plains.drop k).take m).length = m := by decide +kernel
theorem plains_txt : ∀ t ∈ plains, (decide (1 ≤ t.length) && decide (t.length ≤ 8) && t.cps.toList.all fun c => decide (c ∈ letters.cps.toList)) = true := by decide +kernel
theorem plains_tags {k m : Nat} (hk : k < 6) (h0 : 1 ≤ m) (hm : m ≤ 6) : TagsOk ((plains.drop k).take m) := by
  have h2 := plains_len k hk m (by omega) (.inr (by omega))
  refine ⟨by rw [h2]; exact h0, by rw [h2]; exact hm, plains_nd k hk m (by omega), fun t ht => ?_⟩
  have h := plains_txt t (List.mem_of_mem_drop (List.mem_of_mem_take ht))
  rw [Bool.and_eq_true, Bool.and_eq_true, List.all_eq_true] at h
  exact ⟨of_decide_eq_true h.1.1, of_decide_eq_true h.1.2, fun c hc => of_decide_eq_true (h.2 c hc)⟩
theorem cut_both {xs : List V} {i m : Nat} (h : i + m ≤ xs.length) : cutV xs (some (i : Int)) (some ((i : Int) + (m : Int))) = (xs.drop i).take m := by
  rw [show (i : Int) + (m : Int) = ((i + m : Nat) : Int) by omega]
  unfold cutV
  rw [HT.sIx_nat, HT.sIx_nat, Nat.min_eq_left (by omega), Nat.min_eq_left (by omega), Nat.add_sub_cancel_left]
/-- one drawn name -/
def nameOf (w : Str) (at_ sh pc i : Nat) : Str := cutS w none (some (at_ : Int)) ++ (⟨#[97 + (sh + pc * i) % 26]⟩ : Str) ++ cutS w (some (at_ : Int)) none
theorem tl_name (w : Str) (at_ sh pc i : Nat) : tl (nameOf w at_ sh pc i) = (tl w).take at_ ++ [97 + (sh + pc * i) % 26] ++ (tl w).drop at_ := by
  unfold nameOf
  rw [tl_append, tl_append, tl_cutL, tl_cutR]
theorem name_len (w : Str) (at_ sh pc i : Nat) : (nameOf w at_ sh pc i).length = w.length + 1 := by
  have e1 : (nameOf w at_ sh pc i).length = (tl (nameOf w at_ sh pc i)).length := len_tl _
  have e2 : w.length = (tl w).length := len_tl w
  have e3 : ((tl w).take at_).length + ((tl w).drop at_).length = (tl w).length := by rw [← List.length_append, List.take_append_drop]
  rw [e1, tl_name, List.length_append, List.length_append, e2]
  simp only [List.length_cons, List.length_nil]
  omega
theorem cut_lens (w : Str) (k : Nat) : (cutS w none (some (k : Int))).length ≤ w.length ∧ (cutS w (some (k : Int)) none).length ≤ w.length := by
  have e1 : (cutS w none (some (k : Int))).length = ((tl w).take k).length := (len_tl _).trans (congrArg List.length (tl_cutL w k))
  have e2 : (cutS w (some (k : Int)) none).length = ((tl w).drop k).length := (len_tl _).trans (congrArg List.length (tl_cutR w k))
  have e3 : w.length = (tl w).length := len_tl w
  rw [e1, e2, e3, List.length_take, List.length_drop]
  exact ⟨Nat.min_le_right _ _, Nat.sub_le _ _⟩
theorem len_add (x y : Str) : (x ++ y).length = x.length + y.length := by
  have e1 : (x ++ y).length = (tl (x ++ y)).length := len_tl _
  have e2 : x.length = (tl x).length := len_tl x
  have e3 : y.length = (tl y).length := len_tl y
  rw [e1, tl_append, List.length_append, e2, e3]
theorem names_tags {w : Str} {at_ sh pc m : Nat} (hw : w.length < 8) (hc : ∀ c ∈ tl w, 97 ≤ c ∧ c < 123) (hs : sh < 26) (hp : pc ∈ paces) (h0 : 1 ≤ m) (hm : m ≤ 6) : TagsOk ((List.range m).map fun i => nameOf w at_ sh pc i) := by
  refine ⟨by simpa using h0, by simpa using hm, ?_, fun t ht => ?_⟩
  · refine List.pairwise_map.mpr (List.nodup_range.imp_of_mem fun {i j} hi hj hne z => hne ?_)
    have z2 : tl (nameOf w at_ sh pc i) = tl (nameOf w at_ sh pc j) := congrArg tl z
    rw [tl_name, tl_name] at z2
    rw [List.mem_range] at hi hj
    have z3 : (tl w).take at_ ++ [97 + (sh + pc * i) % 26] ++ (tl w).drop at_ ++ [] = (tl w).take at_ ++ [97 + (sh + pc * j) % 26] ++ (tl w).drop at_ ++ [] := by rw [z2]
    exact paces_inj pc hp sh hs i (by omega) j (by omega) (mid_inj z3)
  · obtain ⟨i, _, rfl⟩ := List.mem_map.mp ht
    have hl := name_len w at_ sh pc i
    refine ⟨by omega, by omega, fun c hcm => ?_⟩
    refine (abc_mem (c := c)).mpr ?_
    have hcm : c ∈ tl (nameOf w at_ sh pc i) := hcm
    rw [tl_name] at hcm
    rcases List.mem_append.mp hcm with h | h
    · rcases List.mem_append.mp h with h | h
      · exact hc c (List.mem_of_mem_take h)
      · rw [List.mem_singleton.mp h]
        omega
    · exact hc c (List.mem_of_mem_drop h)
theorem PileAt.ne2 {H : Hp} {p q : Addr} {w : Word} (h : PileAt H p) (e : H q = some (.lst (vS w))) : q ≠ p := fun z => by
  subst z
  obtain ⟨d, c, n, h⟩ := h
  rw [h] at e
  have e := HO.lst.inj (Option.some.inj e)
  cases w with
  | nil => cases e
  | cons t w =>
    have := (List.cons.inj e).1
    cases this
theorem wordEx {H H' : Hp} {p a : Addr} {t : Word} (e : Exc [p] H H') (n : a ≠ p) (h : WordAt H a t) : WordAt H' a t := e _ _ (by simpa using n) h
/-- no name is another with a q behind it -/
def NoQ (tags : Word) : Prop := ∀ t0 ∈ tags, ∀ t ∈ tags, t ≠ t0 ++ Str.ofString "q"
theorem plains_noq {k m : Nat} : NoQ ((plains.drop k).take m) := fun t0 h0 t h => by
  have all : ∀ t0 ∈ plains, ∀ t ∈ plains, t ≠ t0 ++ Str.ofString "q" := by decide +kernel
  exact all t0 (List.mem_of_mem_drop (List.mem_of_mem_take h0)) t (List.mem_of_mem_drop (List.mem_of_mem_take h))
theorem names_noq {w : Str} {at_ sh pc m : Nat} : NoQ ((List.range m).map fun i => nameOf w at_ sh pc i) := fun t0 h0 t h e => by
  obtain ⟨i, _, rfl⟩ := List.mem_map.mp h0
  obtain ⟨j, _, rfl⟩ := List.mem_map.mp h
  have l1 := name_len w at_ sh pc i
  have l2 := name_len w at_ sh pc j
  have l3 := congrArg Str.length e
  rw [len_add] at l3
  have l4 : (Str.ofString "q").length = 1 := by decide +kernel
  omega
def spTags : Sp := fun vs H Q _ => ∃ (p : Addr) (m : Nat), vs = [.ref p, .int (m : Int)] ∧ 1 ≤ m ∧ m ≤ 6 ∧ PileAt H p ∧ ∀ (tags : Word) (q : Addr) (H' : Hp), TagsOk tags → NoQ tags → tags.length = m → Exc [p] H H' → PileAt H' p → H q = none → WordAt H' q tags → Q (.ref q) H'
theorem ok__law_tags (X : TX K mg) : FnOk P w K mg base CX0 4 X.d__law_tags.a X.d__law_tags.fd ["pile", "many"] spTags := by
  have nd := sc__law_tags.nd
  refine X.d__law_tags.F.ok sc__law_tags (fun vs H Q E h => ?_) (fun cdv A outer s H vs Q E hr h => ?_)
  · obtain ⟨p, m, rfl, _⟩ := h
    rfl
  · obtain ⟨p, m, rfl, m0, m1, hp, q⟩ := h
    refine ⟨_, (pss_cons (ps_set (i := 2) nd rfl (Or.inr rfl) pe_str) (pss_cons (ps_if (pt_cmpR op_eq (pe_call (ok__law_take X) (hr.mono (by decide)) rfl X.d__law_take.mg X.d__law_take.F.kp X.d__law_take.b .nil pass0 (pa_cons (pv 0) (pa_cons pe_int pa_nil))) pe_int (nomark _)) (pss_cons (ps_set (i := 3) nd rfl (Or.inl rfl) (pe_lst (pa_cons pe_str (pa_cons pe_str (pa_cons pe_str (pa_cons pe_str (pa_cons pe_str (pa_cons pe_str (pa_cons pe_str (pa_cons pe_str (pa_cons pe_str (pa_cons pe_str (pa_cons pe_str pa_nil))))))))))))) (pss_cons (ps_set (i := 4) nd rfl (Or.inr rfl) (pe_call (ok__law_take X) (hr.mono (by decide)) rfl X.d__law_take.mg X.d__law_take.F.kp X.d__law_take.b .nil pass0 (pa_cons (pv 0) (pa_cons pe_int pa_nil)))) (pss_one (ps_ret (pe_slice (QB.sl_listK K) (pv 3) (po_some (pv 4)) (po_some (pe_op op_add (pv 4) (pv 1)))))))) pss_nil) (pss_cons (ps_set (i := 5) nd rfl (Or.inr rfl) (pe_join pe_str (pe_lc (own := [("k", 8)]) (g := gName 8) (tt := tYes) rfl nd (pi_range1 (by rfl) X.n_range (pa_cons (pe_call (ok__law_take X) (hr.mono (by decide)) rfl X.d__law_take.mg X.d__law_take.F.kp X.d__law_take.b .nil pass0 (pa_cons (pv 0) (pa_cons pe_int pa_nil))) pa_nil)) (blkOk_by (N := ["pile", "many", "letters", "plain", "at", "stem", "shift", "pace", "k"]) (sc := defScope s__law_tags) (by decide +kernel)) (fun _ _ _ _ _ => pg_name (i := 8) nd rfl (Or.inl rfl)) (fun _ _ _ _ _ => pts_nil) (fun _ _ _ _ _ => (pe_item_str (pv 2) (pe_call (ok__law_take X) (hr.mono (by decide)) rfl X.d__law_take.mg X.d__law_take.F.kp X.d__law_take.b .nil pass0 (pa_cons (pv 0) (pa_cons pe_int pa_nil))) (fun _ _ => rfl)))))) (pss_cons (ps_set (i := 4) nd rfl (Or.inr rfl) (pe_call (ok__law_take X) (hr.mono (by decide)) rfl X.d__law_take.mg X.d__law_take.F.kp X.d__law_take.b .nil pass0 (pa_cons (pv 0) (pa_cons (pe_op op_add (pe_callB call_len_str (by rfl) X.n_len PySem.boot_len (pa_cons (pv 5) pa_nil)) pe_int) pa_nil)))) (pss_cons (ps_set (i := 6) nd rfl (Or.inr rfl) (pe_call (ok__law_take X) (hr.mono (by decide)) rfl X.d__law_take.mg X.d__law_take.F.kp X.d__law_take.b .nil pass0 (pa_cons (pv 0) (pa_cons pe_int pa_nil)))) (pss_cons (ps_set (i := 7) nd rfl (Or.inr rfl) (pe_ix (QB.ix_listK K) (pe_lst (pa_cons pe_int (pa_cons pe_int (pa_cons pe_int (pa_cons pe_int (pa_cons pe_int (pa_cons pe_int (pa_cons pe_int (pa_cons pe_int (pa_cons pe_int (pa_cons pe_int (pa_cons pe_int (pa_cons pe_int pa_nil))))))))))))) (pe_call (ok__law_take X) (hr.mono (by decide)) rfl X.d__law_take.mg X.d__law_take.F.kp X.d__law_take.b .nil pass0 (pa_cons (pv 0) (pa_cons pe_int pa_nil))) (fun _ _ => rfl))) (pss_one (ps_ret (pe_lc (own := [("k", 8)]) (g := gName 8) (tt := tYes) rfl nd (pi_range1 (by rfl) X.n_range (pa_cons (pv 1) pa_nil)) (blkOk_by (N := ["pile", "many", "letters", "plain", "at", "stem", "shift", "pace", "k"]) (sc := defScope s__law_tags) (by decide +kernel)) (fun _ _ _ _ _ => pg_name (i := 8) nd rfl (Or.inl rfl)) (fun _ _ _ _ _ => pts_nil) (fun _ _ _ _ _ => (pe_op op_add_str (pe_op op_add_str (pe_slice sl_str (pv 5) po_none (po_some (pv 4))) (pe_item_str (pv 2) (pe_op op_mod (pe_op op_add (pv 6) (pe_op op_mul (pv 7) (pv 8))) pe_int) (fun _ _ => rfl))) (pe_slice sl_str (pv 5) (po_some (pv 4)) po_none)))))))))))), ?_⟩
    try dsimp only [Cx.nox, Cx.wish, cxOf]
    -- the plain names
    refine ⟨_, rfl, p, 2, rfl, by decide, by decide, hp, fun r0 H0 hr0 x0 p0 => ?_⟩
    refine ⟨rfl, _, rfl, ?_⟩
    generalize decide (V.int (r0 : Int) = V.int 0) = b0
    cases b0
    case' true =>
      refine iteT ?_
      refine ⟨by show 11 ≤ sizeLine; decide, fun t2 ht2 => ?_⟩
      have s6 : Same H0 (upd H0 t2 (.lst (vS plains))) := same_new ht2
      have h6 : (upd H0 t2 (.lst (vS plains))) t2 = some (.lst (vS plains)) := upd_same
      have e6 : upd H0 t2 (.lst (vS plains)) = upd H0 t2 (.lst [V.str (Str.ofString "re"), V.str (Str.ofString "fwd"), V.str (Str.ofString "list"), V.str (Str.ofString "aw"), V.str (Str.ofString "r"), V.str (Str.ofString "ext"), V.str (Str.ofString "re"), V.str (Str.ofString "fwd"), V.str (Str.ofString "list"), V.str (Str.ofString "aw"), V.str (Str.ofString "r")]) := rfl
      generalize upd H0 t2 (.lst (vS plains)) = H6 at s6 h6 e6
      rw [← e6]
      clear e6
      refine ⟨_, rfl, p, 6, rfl, by decide, by decide, p0.same s6, fun k H7 hk x7 p7 => ?_⟩
      have h7 : WordAt H7 t2 plains := wordEx x7 ((p0.same s6).ne2 h6) h6
      refine ⟨_, rfl, _, rfl, _, rfl, _, rfl, _, rfl, _, _, rfl, rfl, _, rfl, t2, _, rfl, SqL.of h7, fun t3 ht3 => ?_⟩
      rw [cut_both (by rw [vS_len]; show k + m ≤ 11; omega), vS_drop, vS_take]
      have s8 := same_new (o := .lst (vS ((plains.drop k).take m))) ht3
      have xz := (x0.trans (.of s6)).trans x7
      exact q _ t3 _ (plains_tags hk m0 m1) plains_noq (plains_len _ hk _ (by omega) (.inr (by omega))) (xz.trans (.of s8)) (p7.same s8) (hp.free xz p7 ht3) upd_same
    refine iteF ?_
    refine ⟨⟨_, rfl⟩, _, rfl, ?_⟩
    refine ⟨p, 8, rfl, by decide, by decide, p0, fun r H1 hr1 x1 p1 => ?_⟩
    refine ⟨_, rfl, by omega, by omega, fun D hD => ?_⟩
    have hDp : D ≠ p := fun z => by
      subst z
      obtain ⟨_, _, _, h⟩ := p1
      rw [h] at hD
      cases hD
    refine lc_it (walk_range (lo := 0) (n := r)) (fun i H' => Exc [p] H1 H' ∧ PileAt H' p ∧ ∃ ys : List Nat, ys.length = i ∧ H' D = some (.lst (ys.map fun y => V.str ⟨#[97 + y]⟩)) ∧ ∀ y ∈ ys, y < 26)
      ⟨Exc.refl.mut (.inr hD), p1.upd hDp.symm, [], rfl, upd_same, fun _ h => nomatch h⟩ (fun _ _ _ _ => True.intro) ?_ ?_
    · rintro i x H2 H3 hi ⟨x2, p2, ys, hl, hDl, hy⟩ ⟨rfl, rfl⟩
      refine ⟨rfl, _, rfl, _, rfl, ?_⟩
      refine ⟨p, 26, rfl, by decide, by decide, p2, fun r2 H4 hr2 x4 p4 => ?_⟩
      refine ⟨abc, _, _, rfl, rfl, by omega, by omega, by rw [abc_len]; omega, abc_item (by omega) (by omega), ?_⟩
      have hD4 := x4 D _ (by simpa using hDp) hDl
      refine ⟨_, hD4, by rw [List.length_map]; exact sz_lt (by omega), (x2.trans x4).mut (.inr hD), p4.upd hDp.symm, ys ++ [r2], by rw [List.length_append, hl]; rfl, ?_, ?_⟩
      · rw [upd_same, List.map_append]
        rfl
      · intro y hy'
        rcases List.mem_append.mp hy' with h | h
        · exact hy y h
        · rw [List.mem_singleton.mp h]
          exact hr2
    · rintro H2 ⟨x2, p2, ys, hl, hDl, hy⟩
      have hys : ys.map (fun y => V.str ⟨#[97 + y]⟩) = (ys.map fun y => (⟨#[97 + y]⟩ : Str)).map V.str := by rw [List.map_map]; rfl
      rw [hys] at hDl
      refine ⟨_, D, ys.map fun y => (⟨#[97 + y]⟩ : Str), rfl, rfl, .inl (SqL.of hDl), ?_, ?_⟩
      · rw [sum_ones, List.length_map]
        show ys.length + ys.length * 0 ≤ 16777216
        omega
      have hw : tl (Txt.join (Str.ofString "") (ys.map fun y => (⟨#[97 + y]⟩ : Str))) = ys.map (97 + ·) := by
        rw [show Str.ofString "" = Str.empty from rfl, tl_join0, List.map_map]
        clear hDl hys hl hy
        induction ys with
        | nil => rfl
        | cons y ys ih =>
          rw [List.map_cons, List.flatten_cons, ih]
          rfl
      generalize Txt.join (Str.ofString "") (ys.map fun y => (⟨#[97 + y]⟩ : Str)) = w at hw ⊢
      have hwl : w.length = r := by
        rw [len_tl w, show (tl w).length = (ys.map (97 + ·)).length from congrArg List.length hw, List.length_map]
        exact hl
      have hwc : ∀ c ∈ tl w, 97 ≤ c ∧ c < 123 := fun c hc => by
        rw [hw] at hc
        obtain ⟨y, hy', rfl⟩ := List.mem_map.mp hc
        have := hy y hy'
        omega
      have xA := x1.trans x2
      clear hw hys hDl hy
      show tSeq _ _ _ _ _
      have hsz : w.length ≤ sizeLine := by rw [hwl]; exact Nat.le_trans (Nat.le_of_lt hr1) (by decide)
      refine ⟨_, rfl, _, rfl, w, rfl, hsz, _, _, rfl, rfl, ?_⟩
      refine ⟨p, w.length + 1, rfl, by omega, by omega, p2, fun at_ H3 hat x3 p3 => ?_⟩
      refine ⟨_, rfl, p, 26, rfl, by decide, by decide, p3, fun sh H4 hsh x4 p4 => ?_⟩
      refine ⟨by show 12 ≤ sizeLine; decide, fun t1 ht1 => ?_⟩
      have s5 := same_new (o := .lst (paces.map fun n : Nat => V.int (n : Int))) ht1
      refine ⟨_, rfl, p, 12, rfl, by decide, by decide, p4.same s5, fun pi H5 hpi x5 p5 => ?_⟩
      have hpl : paces[pi]? = some (paces[pi]'hpi) := List.getElem?_eq_getElem hpi
      have hpm : paces[pi]'hpi ∈ paces := List.getElem_mem hpi
      have ht1p := p4.ne ht1
      refine ⟨t1, _, _, V.int ((paces[pi]'hpi : Nat) : Int), rfl, rfl, SqL.of (x5 t1 _ (by simpa using ht1p.symm) upd_same), atI_nat (by
        show (paces.map fun n : Nat => V.int (n : Int))[pi]? = _
        rw [List.getElem?_map, hpl]
        rfl), ?_⟩
      generalize paces[pi]'hpi = pc at hpm hpl ⊢
      have xB := (((xA.trans x3).trans x4).trans (.of s5)).trans x5
      clear s5 x5 hpl ht1p ht1 xA x3 x4 p3 p4 p2 x2 p1 x1 hD
      dsimp only [gName]
      generalize hσ : List.set _ 7 _ = σ6
      have eσ : σ6 = [some (.ref p), some (.int (m : Int)), some (.str abc), none, some (.int (at_ : Int)), some (.str w), some (.int (sh : Int)), some (.int (pc : Int)), none] := by
        rw [← hσ]
        rfl
      subst eσ
      clear hσ
      refine ⟨_, rfl, (m : Int), rfl, by omega, by omega, fun D2 hD2 => ?_⟩
      refine lc_map (walk_range (lo := 0) (n := m)) hD2 (by omega) (fun _ _ => True.intro) (fun i => .str (nameOf w at_ sh pc i)) ?_ ?_
      · rintro i x H6 H7 kk hi s6 ⟨rfl, rfl⟩ hk
        have hv : ((sh : Int) + (pc : Int) * (0 + (i : Nat))) % 26 = (((sh + pc * i) % 26 : Nat) : Int) := by
          rw [Int.zero_add, ← Int.natCast_mul, ← Int.natCast_add]
          omega
        have hc := cut_lens w at_
        refine ⟨rfl, ?_⟩
        refine ⟨_, rfl, _, rfl, _, rfl, w, rfl, hsz, ?_⟩
        refine ⟨_, rfl, _, rfl, _, rfl, _, rfl, _, _, rfl, rfl, ?_, _, _, rfl, rfl, _, _, rfl, rfl, by show (0 : Int) < 26; decide, ?_⟩
        · refine .inl ⟨?_, ?_⟩
          · show -(2 ^ 64) < (pc : Int)
            omega
          · show (pc : Int) < 2 ^ 64
            have : ∀ c ∈ paces, c < 100 := by decide
            have := this pc hpm
            omega
        have hlt : (sh + pc * i) % 26 < 26 := Nat.mod_lt _ (by decide)
        refine ⟨abc, (((sh + pc * i) % 26 : Nat) : Int), 97 + (sh + pc * i) % 26, rfl, congrArg V.int hv, by omega, by omega, by rw [abc_len]; omega, abc_item (by omega) (by omega), ?_⟩
        refine ⟨_, _, rfl, rfl, ?_, ?_⟩
        · show _ + 1 ≤ sizeLine
          exact sz_le (by omega)
        refine ⟨_, rfl, _, rfl, _, rfl, w, rfl, hsz, ?_⟩
        refine ⟨_, _, rfl, rfl, ?_, ?_⟩
        · rw [len_add]
          show _ + 1 + _ ≤ sizeLine
          exact sz_le (by omega)
        exact hk _ (Same.refl _)
      · intro H6 s6 e6
        have tg := names_tags (w := w) (at_ := at_) (sh := sh) (pc := pc) (m := m) (by omega) hwc hsh hpm m0 m1
        refine q ((List.range m).map fun i => nameOf w at_ sh pc i) D2 H6 tg names_noq (by rw [List.length_map, List.length_range]) ((x0.trans xB).trans (.of s6)) (p5.same s6) (hp.free (x0.trans xB) p5 hD2) ?_
        unfold WordAt vS
        rw [List.map_map]
        exact e6
end
end Law
end

section
set_option Elab.async false
set_option linter.all false
set_option maxRecDepth 100000
set_option maxHeartbeats 4000000
namespace Law
open PySem PySem.Spec PyProof.Rows L2 LamX QB QM
section
variable {P : Program} {w : World} {K : PySem.W.Frag} {mg : Str → Option Value} {base : Heap}
theorem newLExc {H0 H H' : Hp} {p : Addr} {L : List Tri} {F : Form} (n : NewL H0 H L F) (e : Exc [p] H H') (hp : PileAt H0 p) : NewL H0 H' L F := by
  obtain ⟨d, c, k, hp⟩ := hp
  refine ⟨paired_mem n.at_ fun x s hx q => ?_, n.new, n.nd⟩
  obtain ⟨f1, f2, f3⟩ := n.new x hx
  have g1 := f1.ne hp
  have g2 := f2.ne hp
  have g3 := f3.ne hp
  exact ⟨e _ _ (by simpa using g1.symm) q.1, e _ _ (by simpa using g2.symm) q.2.1, e _ _ (by simpa using g3.symm) q.2.2⟩
theorem newLSnoc {H0 H : Hp} {t a b : Addr} {L : List Tri} {F : Form} {s : Std} (n : NewL H0 H L F) (h1 : H t = some (.tup [.ref a, .ref b])) (h2 : WordAt H a s.1) (h3 : WaysAt H b s.2) (f1 : Fresh H0 t) (f2 : Fresh H0 a) (f3 : Fresh H0 b) (o1 : a ∉ inner L) (o2 : b ∉ inner L) (hab : a ≠ b) :
    NewL H0 H (L ++ [(t, a, b)]) (F ++ [s]) := by
  refine ⟨Paired.snoc n.at_ ⟨h1, h2, h3⟩, fun x hx => ?_, ?_⟩
  · rcases List.mem_append.mp hx with hx | hx
    · exact n.new x hx
    · rw [List.mem_singleton.mp hx]
      exact ⟨f1, f2, f3⟩
  · rw [inner_append, List.nodup_append]
    refine ⟨n.nd, ?_, fun x hx y hy => ?_⟩
    · show [a, b].Nodup
      simp [hab]
    · have hy : y = a ∨ y = b := by simpa [inner] using hy
      rcases hy with rfl | rfl
      · exact fun z => o1 (z ▸ hx)
      · exact fun z => o2 (z ▸ hx)
theorem vWs_flat {ws : Ways} : (vWs ws).all flatV = true := by
  rw [List.all_eq_true]
  intro x hx
  obtain ⟨y, _, rfl⟩ := List.mem_map.mp hx
  cases y <;> rfl
theorem wordExc {H H' : Hp} {p a : Addr} {t : Word} (e : Exc [p] H H') (n : a ≠ p) (h : WordAt H a t) : WordAt H' a t := e _ _ (by simpa using n) h
theorem PileAt.word {H : Hp} {p a : Addr} {t : Word} (h : PileAt H p) (ha : WordAt H a t) : a ≠ p := fun z => by
  subst z
  obtain ⟨_, _, _, h⟩ := h
  unfold WordAt at ha
  rw [h] at ha
  injection ha with ha
  injection ha with ha
  cases t with
  | nil => cases ha
  | cons => cases ha
theorem vWs_snoc (ws : Ways) (x : Option Nat) : vWs ws ++ [vW x] = vWs (ws ++ [x]) := by
  unfold vWs
  rw [List.map_append]
  rfl
theorem atI_last {ys : List V} {v : V} : atI (ys ++ [v]) (-1) = some v := by
  have e : ixN (ys ++ [v]).length (-1) = some ys.length := by
    unfold ixN
    rw [if_neg (by decide), List.length_append, if_pos (by show -((ys.length + 1 : Nat) : Int) ≤ -1; omega)]
    congr 1
    show (-1 + ((ys.length + 1 : Nat) : Int)).toNat = ys.length
    omega
  unfold atI
  rw [e]
  simp
def spWord : Sp := fun vs H Q _ => ∃ (p a : Addr) (tags : Word) (most : Nat), vs = [.ref p, .ref a, .int (most : Int)] ∧ most ≤ 900 ∧ PileAt H p ∧ WordAt H a tags ∧ TagsOk tags ∧
  ∀ (wd : Word) (q : Addr) (H' : Hp), (∀ t ∈ wd, t ∈ tags) → wd.length ≤ most → Exc [p] H H' → PileAt H' p → H q = none → WordAt H' q wd → Q (.ref q) H'
theorem ok__law_word (X : TX K mg) : FnOk P w K mg base CX0 4 X.d__law_word.a X.d__law_word.fd ["pile", "tags", "most"] spWord := by
  have nd := sc__law_word.nd
  refine X.d__law_word.F.ok sc__law_word (fun vs H Q E h => ?_) (fun cdv A outer s H vs Q E hr h => ?_)
  · obtain ⟨p, a, tags, most, rfl, _⟩ := h
    rfl
  · obtain ⟨p, a, tags, most, rfl, m1, hp, ha, to, k⟩ := h
    refine ⟨_, (pss_one (ps_ret (pe_lc (own := [("turn", 3)]) (g := gName 3) (tt := tYes) rfl nd (pi_range1 (by rfl) X.n_range (pa_cons (pe_call (ok__law_take X) (hr.mono (by decide)) rfl X.d__law_take.mg X.d__law_take.F.kp X.d__law_take.b .nil pass0 (pa_cons (pv 0) (pa_cons (pe_op op_add (pv 2) pe_int) pa_nil))) pa_nil)) (blkOk_by (N := ["pile", "tags", "most", "turn"]) (sc := defScope s__law_word) (by decide +kernel)) (fun _ _ _ _ _ => pg_name (i := 3) nd rfl (Or.inl rfl)) (fun _ _ _ _ _ => pts_nil) (fun _ _ _ _ _ => (pe_ix (QB.ix_listK K) (pv 1) (pe_call (ok__law_take X) (hr.mono (by decide)) rfl X.d__law_take.mg X.d__law_take.F.kp X.d__law_take.b .nil pass0 (pa_cons (pv 0) (pa_cons (pe_callB (QB.call_lenK K) (by rfl) X.n_len PySem.boot_len (pa_cons (pv 1) pa_nil)) pa_nil))) (fun _ _ => rfl)))))), ?_⟩
    try dsimp only [Cx.nox, Cx.wish, cxOf]
    have ap := hp.word ha
    refine ⟨_, rfl, _, rfl, _, _, rfl, rfl, ?_⟩
    refine ⟨p, most + 1, rfl, by omega, by omega, hp, fun r2 H4 hr2 x4 p4 => ⟨_, rfl, by omega, by omega, fun W hW => ?_⟩⟩
    have hWp := p4.ne hW
    have ha4 := wordExc x4 ap ha
    refine lc_it (walk_range (lo := 0) (n := r2)) (fun i H' => Exc [p] H4 H' ∧ PileAt H' p ∧ ∃ ys : Word, ys.length = i ∧ WordAt H' W ys ∧ ∀ t ∈ ys, t ∈ tags)
      ⟨Exc.refl.mut (.inr hW), p4.upd hWp, [], rfl, upd_same, fun _ h => nomatch h⟩ (fun _ _ _ _ => True.intro) ?_ ?_
    · rintro j x H5 H6 hj ⟨x5, p5, ys, hl, hWl, hy⟩ ⟨rfl, rfl⟩
      refine ⟨rfl, _, rfl, _, rfl, ?_⟩
      have ha5 := wordExc x5 ap ha4
      refine ⟨_, rfl, _, _, rfl, .inl (SqL.of ha5), ?_⟩
      have h1 := to.pos
      have h2 := to.len
      refine ⟨p, tags.length, by rw [vS_len]; rfl, by omega, by omega, p5, fun r3 H7 hr3 x7 p7 => ?_⟩
      have e3 : tags[r3]? = some (tags[r3]'hr3) := List.getElem?_eq_getElem hr3
      refine ⟨a, _, _, _, rfl, rfl, SqL.of (wordExc x7 ap ha5), atI_nat (vS_get e3), ?_⟩
      have hW7 := wordExc x7 hWp.symm hWl
      refine ⟨_, hW7, by rw [vS_len]; exact sz_lt (by omega), (x5.trans x7).mut (.inr hW), p7.upd hWp, ys ++ [tags[r3]'hr3], by rw [List.length_append, hl]; rfl, ?_, ?_⟩
      · unfold WordAt
        rw [upd_same, ← vS_append]
        rfl
      · intro t ht
        rcases List.mem_append.mp ht with h | h
        · exact hy t h
        · rw [List.mem_singleton.mp h]
          exact List.getElem_mem hr3
    · rintro H5 ⟨x5, p5, wd, hwl, hWd, hwt⟩
      exact k wd W H5 hwt (by omega) (x4.trans x5) p5 (hp.free x4 p4 hW) hWd
def spStandings : Sp := fun vs H Q _ => ∃ (p a : Addr) (tags : Word) (most long : Nat), vs = [.ref p, .ref a, .int (most : Int), .int (long : Int)] ∧ 1 ≤ most ∧ most ≤ 30 ∧ long ≤ 8 ∧ PileAt H p ∧ WordAt H a tags ∧ TagsOk tags ∧
  ∀ (F : Form) (L : List Tri) (q : Addr) (H' : Hp), FormOk tags F → F.length ≤ most → (∀ s ∈ F, s.1.length ≤ long) → Exc [p] H H' → PileAt H' p → NewF H H' q L F → Q (.ref q) H'
theorem ok__law_standings (X : TX K mg) : FnOk P w K mg base CX0 5 X.d__law_standings.a X.d__law_standings.fd ["pile", "tags", "most", "long"] spStandings := by
  have nd := sc__law_standings.nd
  refine X.d__law_standings.F.ok sc__law_standings (fun vs H Q E h => ?_) (fun cdv A outer s H vs Q E hr h => ?_)
  · obtain ⟨p, a, tags, most, long, rfl, _⟩ := h
    rfl
  · obtain ⟨p, a, tags, most, long, rfl, m0, m1, l1, hp, ha, to, q⟩ := h
    refine ⟨_, (pss_cons (ps_set (i := 4) nd rfl (Or.inl rfl) (pe_op op_add pe_int (pe_call (ok__law_take X) (hr.mono (by decide)) rfl X.d__law_take.mg X.d__law_take.F.kp X.d__law_take.b .nil pass0 (pa_cons (pv 0) (pa_cons (pv 2) pa_nil))))) (pss_cons (ps_set (i := 5) nd rfl (Or.inl rfl) (pe_lst pa_nil)) (pss_cons (ps_for PassesOwn.never rfl (pi_range1 (by rfl) X.n_range (pa_cons (pv 4) pa_nil)) (pg_name (i := 6) nd rfl (Or.inl rfl)) (pss_cons (ps_set (i := 7) nd rfl (Or.inl rfl) (pe_lst pa_nil)) (pss_cons (ps_for PassesOwn.never rfl (QB.pi_listK K (pv 1)) (pg_name (i := 8) nd rfl (Or.inl rfl)) (pss_one (ps_expr (QB.pe_bmK K PySem.F.plainAttrs_list PySem.F.slot_list_append PySem.F.type_list_append mt_append (pv 7) (pa_cons (pe_ix (QB.ix_listK K) (pe_lst (pa_cons pe_non (pa_cons pe_non (pa_cons (pe_call (ok__law_take X) (hr.mono (by decide)) rfl X.d__law_take.mg X.d__law_take.F.kp X.d__law_take.b .nil pass0 (pa_cons (pv 0) (pa_cons (pv 4) pa_nil))) pa_nil)))) (pe_call (ok__law_take X) (hr.mono (by decide)) rfl X.d__law_take.mg X.d__law_take.F.kp X.d__law_take.b .nil pass0 (pa_cons (pv 0) (pa_cons pe_int pa_nil))) (fun _ _ => rfl)) pa_nil))))) (pss_one (ps_expr (QB.pe_bmK K PySem.F.plainAttrs_list PySem.F.slot_list_append PySem.F.type_list_append mt_append (pv 5) (pa_cons (pe_tup (pa_cons (pe_call (ok__law_word X) (hr.mono (by decide)) rfl X.d__law_word.mg X.d__law_word.F.kp X.d__law_word.b .nil pass0 (pa_cons (pv 0) (pa_cons (pv 1) (pa_cons (pv 3) pa_nil)))) (pa_cons (pv 7) pa_nil))) pa_nil))))))) (pss_one (ps_ret (pv 5)))))), ?_⟩
    try dsimp only [Cx.nox, Cx.wish, cxOf]
    refine ⟨_, rfl, _, rfl, ?_⟩
    refine ⟨p, most, rfl, by omega, by omega, hp, fun r H1 hr1 x1 p1 => ?_⟩
    show rI0 _ _ _ _ _
    refine ⟨_, _, rfl, rfl, ?_⟩
    refine ⟨by show 0 ≤ sizeLine; decide, fun D hD => ?_⟩
    have hDp := p1.ne hD
    have ap := hp.word ha
    show tSeq _ _ _ (List.set _ 5 _) _
    generalize hσ : List.set _ 5 _ = σ6
    have eσ : σ6 = [some (.ref p), some (.ref a), some (.int (most : Int)), some (.int (long : Int)), some (.int ((1 + r : Nat) : Int)), some (.ref D), none, none, none] := by
      rw [← hσ]
      rfl
    subst eσ
    clear hσ
    have hn : 1 + r ≤ most := by omega
    have hn1 : 1 ≤ 1 + r := by omega
    generalize 1 + r = n at hn hn1 ⊢
    clear hr1
    have hD0 : H D = none := hp.free x1 p1 hD
    refine ⟨_, rfl, (n : Int), rfl, by omega, by omega, ?_⟩
    refine for_it (walk_range (lo := 0) (n := n)) (fun i σ H' => ∃ (v6 v7 v8 : Option V) (F : Form) (L : List Tri), σ = [some (.ref p), some (.ref a), some (.int (most : Int)), some (.int (long : Int)), some (.int (n : Int)), some (.ref D), v6, v7, v8] ∧
        Exc [p] H H' ∧ PileAt H' p ∧ H' D = some (.lst (L.map fun x => V.ref x.1)) ∧ NewL H H' L F ∧ D ∉ inner L ∧ F.length = i ∧ (∀ s ∈ F, StdOk tags n s) ∧ ∀ s ∈ F, s.1.length ≤ long)
      ⟨none, none, none, [], [], rfl, x1.mut (.inr hD0), p1.upd hDp, upd_same, NewL.nil, by simp [inner], rfl, (fun _ h => nomatch h), fun _ h => nomatch h⟩ (fun _ _ _ _ _ => True.intro) ?_ ?_
    · rintro i x σ H2 H3 hi ⟨v6, v7, v8, F, L, rfl, x2, p2, hD2, nL, oD, hF, hok, hlg⟩ ⟨rfl, rfl⟩
      have hL := nL.len
      -- the ways
      refine ⟨by show 0 ≤ sizeLine; decide, fun V0 hV => ?_⟩
      have hVp := p2.ne hV
      have hV0 : H V0 = none := hp.free x2 p2 hV
      have hVD : V0 ≠ D := (ne_of_none hD2 hV).symm
      have hVin : V0 ∉ inner L := fun h => by
        obtain ⟨_, h⟩ := nL.there h
        rw [hV] at h
        cases h
      have s3 := same_new (o := .lst ([] : List V)) hV
      have xA := x2.trans (.of s3)
      have pA := p2.same s3
      have hDA := s3 _ _ hD2
      have nA := nL.same s3
      have hVA : WaysAt (upd H3 V0 (.lst [])) V0 [] := upd_same
      generalize upd H3 V0 (.lst []) = HA at xA pA hDA nA hVA ⊢
      clear s3 hV x2 p2 hD2 nL
      have haA := wordExc xA ap ha
      refine ⟨_, rfl, _, rfl, ⟨_, SqL.of haA⟩, ?_⟩
      refine for_it (walk_listW (K := K) (a := a) (w := tags)) (fun j σ H' => ∃ (v8 : Option V) (ws : Ways), σ = [some (.ref p), some (.ref a), some (.int (most : Int)), some (.int (long : Int)), some (.int (n : Int)), some (.ref D), some (.int (0 + (i : Int))), some (.ref V0), v8] ∧ Exc [p] H H' ∧ PileAt H' p ∧
          H' D = some (.lst (L.map fun x => V.ref x.1)) ∧ NewL H H' L F ∧ WaysAt H' V0 ws ∧ ws.length = j ∧ ∀ m, some m ∈ ws → m < n)
        ⟨_, [], rfl, xA, pA, hDA, nA, hVA, rfl, fun _ h => nomatch h⟩ (fun j σ H' _ ⟨_, _, _, x', _⟩ => wordExc x' ap ha) ?_ ?_
      · rintro j x σ H5 H6 hj ⟨v8, ws, rfl, x5, p5, hD5, n5, hV5, hwl, hwn⟩ ⟨t, ht, rfl, rfl⟩
        refine ⟨_, rfl, .inl ⟨rfl, _, SqL.of hV5⟩, ?_⟩
        refine ⟨_, rfl, _, rfl, p, n, rfl, by omega, by omega, p5, fun r7 H7 hr7 x7 p7 => ⟨by show 3 ≤ sizeLine; decide, fun u hu => ?_⟩⟩
        have s7 := same_new (o := .lst [V.non, V.non, V.int (r7 : Int)]) hu
        have hu7 : (upd H7 u (.lst [V.non, V.non, V.int (r7 : Int)])) u = some (.lst [V.non, V.non, V.int (r7 : Int)]) := upd_same
        have xB := x7.trans (.of s7)
        have pB := p7.same s7
        have hup := p7.ne hu
        generalize upd H7 u (.lst [V.non, V.non, V.int (r7 : Int)]) = HB at s7 hu7 xB pB ⊢
        refine ⟨_, rfl, p, 3, rfl, by decide, by decide, pB, fun r9 H9 hr9 x9 p9 => ?_⟩
        have hu9 := x9 u _ (by simpa using hup.symm) hu7
        have hix : ∃ wy : Option Nat, atI [V.non, V.non, V.int (r7 : Int)] (r9 : Int) = some (vW wy) ∧ ∀ m, wy = some m → m < n := by
          rcases (by omega : r9 = 0 ∨ r9 = 1 ∨ r9 = 2) with rfl | rfl | rfl
          · exact ⟨none, atI_nat (j := 0) rfl, fun _ h => nomatch h⟩
          · exact ⟨none, atI_nat (j := 1) rfl, fun _ h => nomatch h⟩
          · exact ⟨some r7, atI_nat (j := 2) rfl, fun m h => by rw [← Option.some.inj h]; exact hr7⟩
        obtain ⟨wy, hwy, hwy2⟩ := hix
        refine ⟨u, _, _, _, rfl, rfl, SqL.of hu9, hwy, ?_⟩
        have xC := xB.trans x9
        have hV9 : WaysAt H9 V0 ws := xC _ _ (by simpa using hVp.symm) hV5
        have hD9 := xC D _ (by simpa using hDp.symm) hD5
        have n9 := newLExc n5 xC hp
        refine ⟨V0, _, _, rfl, rfl, hV9, by rw [vWs_len, hwl]; have := to.len; exact sz_lt (by omega), ?_⟩
        rw [vWs_snoc]
        refine ⟨_, ws ++ [wy], rfl, (x5.trans xC).mut (.inr hV0), p9.upd hVp, (upd_ne hVD.symm).trans hD9, n9.upd hV9 hVin, upd_same, by rw [List.length_append, hwl]; rfl, fun m hm => ?_⟩
        rcases List.mem_append.mp hm with h | h
        · exact hwn m h
        · exact hwy2 m (List.mem_singleton.mp h).symm
      · rintro σ H5 ⟨v8, ws, rfl, x5, p5, hD5, n5, hV5, hwl, hwn⟩
        refine ⟨_, rfl, .inl ⟨rfl, _, SqL.of hD5⟩, ?_⟩
        refine ⟨_, rfl, _, rfl, _, rfl, p, a, tags, long, rfl, by omega, p5, wordExc x5 ap ha, to, fun wd W H6 hwt hwl2 x6 p6 nW hW => ?_⟩
        have hD6 := x6 D _ (by simpa using hDp.symm) hD5
        have n6 := newLExc n5 x6 hp
        have hV6 : WaysAt H6 V0 ws := x6 _ _ (by simpa using hVp.symm) hV5
        have xB := x5.trans x6
        have nWH : H W = none := hp.free x5 p5 nW
        have hWV : W ≠ V0 := (ne_of_none hV5 nW).symm
        have hWD : W ≠ D := (ne_of_none hD5 nW).symm
        have hWin : W ∉ inner L := fun h => by
          obtain ⟨_, h⟩ := n5.there h
          rw [nW] at h
          cases h
        refine ⟨_, rfl, by show 2 ≤ sizeLine; decide, fun t ht => ?_⟩
        have s7 := same_new (o := .tup [V.ref W, V.ref V0]) ht
        have nt : H t = none := hp.free xB p6 ht
        have htD : t ≠ D := (ne_of_none hD6 ht).symm
        have hp7 := p6.same s7
        have hD7 := s7 _ _ hD6
        have n7 := newLSnoc (s := (wd, ws)) (n6.same s7) (t := t) upd_same (Same.word s7 hW) (Same.ways s7 hV6) (.of nt) (.of nWH) (.of hV0) hWin hVin hWV
        generalize upd H6 t (.tup [V.ref W, V.ref V0]) = H7 at s7 hp7 hD7 n7 ⊢
        refine ⟨D, _, _, rfl, rfl, hD7, by rw [List.length_map, hL, hF]; exact sz_lt (by omega), ?_⟩
        have oD2 := not_inner_snoc (t := t) oD hWD.symm hVD.symm
        refine ⟨_, _, _, F ++ [(wd, ws)], L ++ [(t, W, V0)], rfl, (xB.trans (.of s7)).mut (.inr hD0), hp7.upd hDp, ?_, n7.upd hD7 oD2, oD2, by rw [List.length_append, hF]; rfl, fun s hs => ?_, fun s hs => ?_⟩
        · rw [upd_same, List.map_append]
          rfl
        · rcases List.mem_append.mp hs with h | h
          · exact hok s h
          · rw [List.mem_singleton.mp h]
            exact ⟨by show wd.length ≤ 8; omega, hwt, hwl, hwn⟩
        · rcases List.mem_append.mp hs with h | h
          · exact hlg s h
          · rw [List.mem_singleton.mp h]
            exact hwl2
    · rintro σ H2 ⟨v6, v7, v8, F, L, rfl, x2, p2, hD2, nL, oD, hF, hok, hlg⟩
      exact ⟨_, rfl, q F L D H2 ⟨by omega, by omega, fun s hs => by rw [hF]; exact hok s hs⟩ (by omega) hlg x2 p2 ⟨hD2, nL, .of hD0, oD⟩⟩
theorem ok__law_eaten (X : TX K mg) : FnOk P w K mg base CX0 3 X.d__law_eaten.a X.d__law_eaten.fd ["tags", "standings", "subject"] spMade := by
  have nd := sc__law_eaten.nd
  refine X.d__law_eaten.F.ok sc__law_eaten (fun vs H Q E h => ?_) (fun cdv A outer s H vs Q E hr h => ?_)
  · obtain ⟨a, b, c, tags, F, wd, rfl, _⟩ := h
    rfl
  · obtain ⟨a, b, c, tags, F, wd, rfl, hT, hF, hw, g, hin, hz, hz2, k⟩ := h
    refine ⟨_, (pss_cons (ps_asg (pe_tup (pa_cons pe_int (pa_cons pe_int pa_nil))) (pg_tup (by rfl) (pgs_cons (pg_name (i := 3) nd rfl (Or.inl rfl)) (pgs_cons (pg_name (i := 4) nd rfl (Or.inl rfl)) (pgs_nil))))) (pss_cons (ps_while PassesOwn.never (PW.pt (pw_and (pt_cmpR op_lt (pv 4) (pe_callB (QB.call_lenK K) (by rfl) X.n_len PySem.boot_len (pa_cons (pv 2) pa_nil)) (nomark _)) (pw_and1 (pt_cmpR op_notN (pe_ix (QB.ix_listK K) (pe_ix (QB.ix_tupK K) (pe_ix (QB.ix_listK K) (pv 1) (pv 3) (fun _ _ => rfl)) pe_int (fun _ _ => rfl)) (QB.pe_bmK K PySem.F.plainAttrs_list PySem.F.slot_list_index PySem.F.type_list_index (QB.mt_indexK K) (pv 0) (pa_cons (pe_ix (QB.ix_listK K) (pv 2) (pv 4) (fun _ _ => rfl)) pa_nil)) (fun _ _ => rfl)) pe_non (nomark _))))) (pss_cons (ps_set (i := 3) nd rfl (Or.inl rfl) (pe_ix (QB.ix_listK K) (pe_ix (QB.ix_tupK K) (pe_ix (QB.ix_listK K) (pv 1) (pv 3) (fun _ _ => rfl)) pe_int (fun _ _ => rfl)) (QB.pe_bmK K PySem.F.plainAttrs_list PySem.F.slot_list_index PySem.F.type_list_index (QB.mt_indexK K) (pv 0) (pa_cons (pe_ix (QB.ix_listK K) (pv 2) (pv 4) (fun _ _ => rfl)) pa_nil)) (fun _ _ => rfl))) (pss_one (ps_set (i := 4) nd rfl (Or.inl rfl) (pe_op op_add (pv 4) pe_int))))) (pss_one (ps_ret (pe_op op_cat (pe_ix (QB.ix_tupK K) (pe_ix (QB.ix_listK K) (pv 1) (pv 3) (fun _ _ => rfl)) pe_int (fun _ _ => rfl)) (pe_slice (QB.sl_listK K) (pv 2) (po_some (pv 4)) po_none)))))), ?_⟩
    try dsimp only [Cx.nox, Cx.wish, cxOf]
    refine ⟨by show 2 ≤ sizeLine; decide, fun tp htp => ?_⟩
    have s0 := same_new (o := .tup [V.int 0, V.int 0]) htp
    refine ⟨tp, _, rfl, SqT.of upd_same, rfl, _, _, rfl, _, _, rfl, rfl, ?_⟩
    generalize upd H tp (.tup [V.int 0, V.int 0]) = H0 at s0 ⊢
    refine ⟨fun m σ H' => ∃ at_ cnt : Nat, σ = [some (.ref a), some (.ref b), some (.ref c), some (.int (at_ : Int)), some (.int (cnt : Int))] ∧ Same H H' ∧ m = wd.length - cnt ∧ cnt ≤ wd.length ∧ at_ < F.length ∧ walkFrom tags F at_ cnt (wd.drop cnt) = walk tags F wd,
      ⟨_, 0, 0, rfl, s0, rfl, Nat.zero_le _, g.pos, rfl⟩, ?_⟩
    rintro m σ H1 ⟨at_, cnt, rfl, s1, rfl, hc, hat, hwk⟩
    refine ⟨_, rfl, _, rfl, _, _, rfl, .inl (SqL.of (Same.word s1 hw)), _, _, rfl, rfl, _, rfl, ?_⟩
    rw [vS_len]
    have eF : F[at_]? = some F[at_] := by simp [hat]
    have fin : ∀ (e : walk tags F wd = (at_, cnt)), ∀ (p : Addr) (H' : Hp), Same H1 H' → H1 p = none → H' p = some (.lst (vS (F[at_].1 ++ wd.drop cnt))) → Q (.ref p) H' := fun e p H' s' n' h' => by
      refine k p H' (s1.trans s') (s1.free n') ?_
      rw [h']
      unfold make
      rw [e, wordOf_of eF]
    obtain ⟨vs, t, p1, p2, f1, f2, f3, f4, f5, f6⟩ := (Same.form s1 hF).at eF
    have ret : (∀ (e : walk tags F wd = (at_, cnt)), tRet (tOp rCat (tOp (rIxT K) (tOp (rIxL K) (tVar 1) (tVar 3)) (tC (V.int 0))) (tSl (rSlL K) (tVar 2) (tPart (tVar 4)) tNoPart)) { nx := fun x H' => Q V.non H', rt := Q } [some (.ref a), some (.ref b), some (.ref c), some (.int (at_ : Int)), some (.int (cnt : Int))] H1) := fun e => by
      refine ⟨_, rfl, _, rfl, _, _, _, _, rfl, rfl, SqL.of f1, atI_nat f3, _, _, _, _, rfl, rfl, SqT.of f4, rfl, ?_⟩
      refine ⟨_, rfl, _, rfl, _, rfl, _, _, rfl, SqL.of (Same.word s1 hw), fun q hq => ?_⟩
      rw [cut_drop, vS_drop]
      refine ⟨_, _, _, _, rfl, rfl, Eq.trans (upd_ne (ne_of_none f5 hq)) f5, upd_same, ?_, fun p hp => ?_⟩
      · have z1 := hz2 _ (mem_of eF)
        have z2 : (wd.drop cnt).length ≤ wd.length := by rw [List.length_drop]; omega
        rw [vS_len, vS_len]
        exact sz_le (by omega)
      · have s2 : Same H1 (upd H1 q (.lst (vS (wd.drop cnt)))) := same_new hq
        refine fin e p _ (Same.new s2 hp) (s2.free hp) ?_
        rw [upd_same, vS_append]
    by_cases hlt : cnt < wd.length
    · rw [decide_eq_true (by omega)]
      refine iteT ?_
      have hx : wd[cnt]? = some wd[cnt] := List.getElem?_eq_getElem hlt
      have hxt : wd[cnt] ∈ tags := hin _ (List.mem_of_getElem? hx)
      have ed : wd.drop cnt = wd[cnt] :: wd.drop (cnt + 1) := List.drop_eq_getElem_cons hlt
      rw [ed] at hwk
      unfold walkFrom at hwk
      rw [wayAt_of eF] at hwk
      generalize wd[cnt] = tg at hx hxt hwk
      refine ⟨_, rfl, _, rfl, _, _, _, _, rfl, rfl, SqL.of f1, atI_nat f3, _, _, _, _, rfl, rfl, SqT.of f4, rfl, ?_⟩
      refine ⟨_, rfl, .inl ⟨rfl, _, SqL.of (Same.word s1 hT)⟩, _, rfl, _, rfl, _, _, _, _, rfl, rfl, SqL.of (Same.word s1 hw), atI_nat (vS_get hx), ?_⟩
      dsimp only [tNil]
      refine index_word (Same.word s1 hT) hxt ?_
      refine ⟨_, _, _, _, rfl, rfl, SqL.of f6, atI_nat (vWs_get (g.way eF hxt)), rfl, _, rfl, ?_⟩
      cases e : way tags F[at_] tg with
      | none =>
        rw [e] at hwk
        refine iteF ?_
        exact ret hwk.symm
      | some n =>
        rw [e] at hwk
        refine iteT ?_
        refine ⟨fun σ H' => ∃ at_ : Nat, σ = [some (.ref a), some (.ref b), some (.ref c), some (.int (at_ : Int)), some (.int ((cnt + 1 : Nat) : Int))] ∧ Same H H' ∧ at_ < F.length ∧ walkFrom tags F at_ (cnt + 1) (wd.drop (cnt + 1)) = walk tags F wd, ?_, ?_⟩
        · rintro σ' H' ⟨at2, rfl, s2, h2, h3⟩
          exact ⟨_, by omega, at2, cnt + 1, rfl, s2, rfl, by omega, h2, h3⟩
        · refine ⟨_, rfl, _, rfl, _, _, _, _, rfl, rfl, SqL.of f1, atI_nat f3, _, _, _, _, rfl, rfl, SqT.of f4, rfl, ?_⟩
          refine ⟨_, rfl, .inl ⟨rfl, _, SqL.of (Same.word s1 hT)⟩, _, rfl, _, rfl, _, _, _, _, rfl, rfl, SqL.of (Same.word s1 hw), atI_nat (vS_get hx), ?_⟩
          dsimp only [tNil]
          refine index_word (Same.word s1 hT) hxt ?_
          refine ⟨_, _, _, _, rfl, rfl, SqL.of f6, atI_nat (vWs_get (g.way eF hxt)), ?_⟩
          rw [e]
          exact ⟨_, rfl, _, _, rfl, rfl, n, rfl, s1, g.wayLt eF hxt e, hwk⟩
    · rw [decide_eq_false (by omega)]
      refine iteF (iteF ?_)
      have hd : wd.drop cnt = [] := List.drop_eq_nil_of_le (by omega)
      rw [hd] at hwk
      exact ret hwk.symm
end
end Law
end

section
set_option linter.all false
set_option autoImplicit false
/-! Qleast: what a form makes, and that its least form makes the same. -/
namespace QM
open PySem QB
/-- what is made from a standing on -/
def eff (tags : List Str) (F : Form) : Nat → Word → Word
  | k, [] => wordOf F k
  | k, t :: w => match wayAt tags F k t with
    | none => wordOf F k ++ t :: w
    | some b => eff tags F b w
theorem walkFrom_ge (tags : List Str) (F : Form) : ∀ (w : Word) (a k : Nat), k ≤ (walkFrom tags F a k w).2
  | [], _, _ => Nat.le_refl _
  | t :: w, a, k => by
    unfold walkFrom
    cases wayAt tags F a t with
    | none => exact Nat.le_refl _
    | some b => exact Nat.le_trans (Nat.le_succ k) (walkFrom_ge tags F w b (k + 1))
theorem walkFrom_eff (tags : List Str) (F : Form) : ∀ (w : Word) (a k : Nat), wordOf F (walkFrom tags F a k w).1 ++ w.drop ((walkFrom tags F a k w).2 - k) = eff tags F a w
  | [], _, _ => by simp [walkFrom, eff]
  | t :: w, a, k => by
    unfold walkFrom eff
    cases wayAt tags F a t with
    | none => simp
    | some b =>
      have h := walkFrom_ge tags F w b (k + 1)
      have ih := walkFrom_eff tags F w b (k + 1)
      show wordOf F (walkFrom tags F b (k + 1) w).1 ++ (t :: w).drop ((walkFrom tags F b (k + 1) w).2 - k) = eff tags F b w
      rw [← ih, show (walkFrom tags F b (k + 1) w).2 - k = ((walkFrom tags F b (k + 1) w).2 - (k + 1)) + 1 by omega, List.drop_succ_cons]
theorem make_eff (tags : List Str) (F : Form) (w : Word) : make tags F w = eff tags F 0 w := by
  have := walkFrom_eff tags F w 0 0
  rw [Nat.sub_zero] at this
  exact this

theorem wordOf_std {F : Form} {k : Nat} (h : k < F.length) : wordOf F k = (stdOf F k).1 := wordOf_of (stdOf_get h)
theorem wayAt_std {tags : List Str} {F : Form} {k : Nat} {t : Str} (h : k < F.length) : wayAt tags F k t = way tags (stdOf F k) t := wayAt_of (stdOf_get h)
theorem way_mem {tags : List Str} {s : Std} {t : Str} {n : Nat} (h : way tags s t = some n) : some n ∈ s.2 := by
  unfold way at h
  cases e : s.2[ixOf tags t]? with
  | none =>
    rw [e] at h
    cases h
  | some x =>
    rw [e] at h
    have h : x = some n := h
    rw [← h]
    exact List.mem_of_getElem? e
theorem Good.std_to {tags : List Str} {F : Form} (g : Good tags F) {k n : Nat} (hk : k < F.length) (h : some n ∈ (stdOf F k).2) : n < F.length := g.to _ (mem_of (stdOf_get hk)) n h
theorem Good.std_len {tags : List Str} {F : Form} (g : Good tags F) {k : Nat} (hk : k < F.length) : (stdOf F k).2.length = tags.length := g.len _ (mem_of (stdOf_get hk))

/-! ### without needless ways -/
theorem Pruned.std {tags : List Str} {F : Form} {st : Form × List Bool} (p : Pruned tags F st) {k : Nat} (hk : k < F.length) : (stdOf st.1 k).1 = (stdOf F k).1 ∧ (stdOf st.1 k).2.length = (stdOf F k).2.length ∧ ∀ n, some n ∈ (stdOf st.1 k).2 → some n ∈ (stdOf F k).2 :=
  p.word k _ (stdOf_get (by rw [p.len]; exact hk))
theorem way_prune {tags : List Str} {F : Form} {S : List Bool} {s : Std} {t : Str} (hl : s.2.length = tags.length) (ht : t ∈ tags) : way tags (pruneStd tags F S s) t = pruneWay F S s.1 t (way tags s t) := by
  have hlt : tags.idxOf t < tags.length := List.idxOf_lt_length_of_mem ht
  have e1 : tags[tags.idxOf t]? = some t := by rw [List.getElem?_eq_getElem hlt, List.getElem_idxOf]
  have e2 : s.2[tags.idxOf t]? = some (s.2[tags.idxOf t]'(by omega)) := List.getElem?_eq_getElem (by omega)
  have e3 := pruneWays_get (F := F) (S := S) e1 e2
  unfold way ixOf
  show ((pruneWays tags F S s)[tags.idxOf t]?).join = pruneWay F S s.1 t (s.2[tags.idxOf t]?).join
  rw [e3, e2]
  rfl
structure PInv (tags : List Str) (F : Form) (st : Form × List Bool) : Prop where
  p : Pruned tags F st
  same : ∀ (w : Word) (k : Nat), k < F.length → (∀ t ∈ w, t ∈ tags) → eff tags st.1 k w = eff tags F k w
  set : ∀ k, k < F.length → st.2.getD k false = true → ∀ w : Word, (∀ t ∈ w, t ∈ tags) → eff tags F k w = wordOf F k ++ w
theorem PInv.start {tags : List Str} {F : Form} : PInv tags F (F, List.replicate F.length false) :=
  ⟨Pruned.start tags F, fun _ _ _ _ => rfl, fun k hk h => by
    have h : (List.replicate F.length false).getD k false = true := h
    rw [List.getD_eq_getElem?_getD, List.getElem?_replicate, if_pos hk] at h
    cases h⟩
theorem eff_cons {tags : List Str} {F : Form} {k : Nat} {t : Str} {w : Word} : eff tags F k (t :: w) = match wayAt tags F k t with
    | none => wordOf F k ++ t :: w
    | some b => eff tags F b w := rfl
theorem PInv.step {tags : List Str} {F : Form} (g : Good tags F) {st : Form × List Bool} (i : PInv tags F st) {k : Nat} (hk : k < F.length) : PInv tags F (needStep tags F st k) := by
  have p' := i.p.step g hk
  have len' := p'.len
  have ss := i.p.std hk
  have gl := g.std_len hk
  have wd : ∀ j, j < F.length → wordOf (needStep tags F st k).1 j = wordOf F j := fun j hj => by
    rw [wordOf_std (by rw [len']; exact hj), wordOf_std hj]
    exact (p'.std hj).1
  have wj : ∀ j t, j < F.length → j ≠ k → wayAt tags (needStep tags F st k).1 j t = wayAt tags st.1 j t := fun j t hj hne => by
    unfold wayAt
    show ((st.1.set k _)[j]?).bind _ = _
    rw [List.getElem?_set_ne (Ne.symm hne)]
  have wk : ∀ t, t ∈ tags → wayAt tags (needStep tags F st k).1 k t = pruneWay F st.2 (stdOf F k).1 t (wayAt tags st.1 k t) := fun t ht => by
    have e : (needStep tags F st k).1[k]? = some (pruneStd tags F st.2 (stdOf st.1 k)) := by
      show (st.1.set k _)[k]? = _
      rw [List.getElem?_set_self (by rw [i.p.len]; exact hk)]
    rw [wayAt_of e, way_prune (by rw [ss.2.1, gl]) ht, ss.1, wayAt_std (by rw [i.p.len]; exact hk)]
  have same : ∀ (w : Word) (j : Nat), j < F.length → (∀ t ∈ w, t ∈ tags) → eff tags (needStep tags F st k).1 j w = eff tags F j w := by
    intro w
    induction w with
    | nil => exact fun j hj _ => wd j hj
    | cons t w ih =>
      intro j hj ht
      have ht1 := ht t List.mem_cons_self
      have htw : ∀ x ∈ w, x ∈ tags := fun x hx => ht x (List.mem_cons_of_mem _ hx)
      rw [← i.same (t :: w) j hj ht, eff_cons, eff_cons]
      have wds : wordOf st.1 j = wordOf F j := by
        rw [wordOf_std (by rw [i.p.len]; exact hj), wordOf_std hj]
        exact (i.p.std hj).1
      have lt : ∀ n, wayAt tags st.1 j t = some n → n < F.length := fun n hn => by
        rw [wayAt_std (by rw [i.p.len]; exact hj)] at hn
        exact g.std_to hj ((i.p.std hj).2.2 n (way_mem hn))
      by_cases hjk : j = k
      · subst hjk
        rw [wk t ht1]
        cases e : wayAt tags st.1 j t with
        | none => show wordOf _ j ++ t :: w = wordOf st.1 j ++ t :: w; rw [wd j hj, wds]
        | some n =>
          have hn := lt n e
          by_cases hd : isNeedless F st.2 (stdOf F j).1 t n = true
          · have e2 : pruneWay F st.2 (stdOf F j).1 t (some n) = none := if_pos hd
            rw [e2]
            show wordOf _ j ++ t :: w = eff tags st.1 n w
            unfold isNeedless at hd
            rw [Bool.and_eq_true] at hd
            rw [i.same w n hn htw, i.set n hn hd.1 w htw, wd j hj, wordOf_std hn, of_decide_eq_true hd.2, wordOf_std hj]
            simp
          · have e2 : pruneWay F st.2 (stdOf F j).1 t (some n) = some n := if_neg hd
            rw [e2]
            show eff tags _ n w = eff tags st.1 n w
            rw [ih n hn htw, i.same w n hn htw]
      · rw [wj j t hj hjk]
        cases e : wayAt tags st.1 j t with
        | none => show wordOf _ j ++ t :: w = wordOf st.1 j ++ t :: w; rw [wd j hj, wds]
        | some n =>
          have hn := lt n e
          show eff tags _ n w = eff tags st.1 n w
          rw [ih n hn htw, i.same w n hn htw]
  refine ⟨p', same, fun j hj hs w hw => ?_⟩
  have hs : (st.2.set k ((pruneWays tags F st.2 (stdOf st.1 k)).all Option.isNone)).getD j false = true := hs
  rw [List.getD_eq_getElem?_getD] at hs
  by_cases hjk : k = j
  · subst hjk
    rw [List.getElem?_set_self (by rw [i.p.lenS]; exact hk)] at hs
    have hs : (pruneWays tags F st.2 (stdOf st.1 k)).all Option.isNone = true := hs
    rw [← same w k hk hw]
    cases w with
    | nil =>
      show wordOf _ k = _
      rw [wd k hk, List.append_nil]
    | cons t w =>
      rw [eff_cons]
      cases e : wayAt tags (needStep tags F st k).1 k t with
      | none => show wordOf _ k ++ _ = _; rw [wd k hk]
      | some n =>
        have e1 : (needStep tags F st k).1[k]? = some (pruneStd tags F st.2 (stdOf st.1 k)) := by
          show (st.1.set k _)[k]? = _
          rw [List.getElem?_set_self (by rw [i.p.len]; exact hk)]
        rw [wayAt_of e1] at e
        have := List.all_eq_true.mp hs _ (way_mem e)
        cases this
  · rw [List.getElem?_set_ne hjk, ← List.getD_eq_getElem?_getD] at hs
    exact i.set j hj hs w hw
theorem PInv.fold {tags : List Str} {F : Form} (g : Good tags F) : ∀ (ks : List Nat) (st : Form × List Bool), PInv tags F st → (∀ k ∈ ks, k < F.length) → PInv tags F (ks.foldl (needStep tags F) st)
  | [], _, p, _ => p
  | k :: ks, st, p, h => PInv.fold g ks (needStep tags F st k) (p.step g (h k List.mem_cons_self)) fun j hj => h j (List.mem_cons_of_mem _ hj)
theorem needInv {tags : List Str} {F : Form} (g : Good tags F) : PInv tags F (needFold tags F (byLen F)) := PInv.fold g _ _ PInv.start fun k hk => byLen_lt hk
theorem needless_eff {tags : List Str} {F : Form} (g : Good tags F) {w : Word} {k : Nat} (hk : k < F.length) (hw : ∀ t ∈ w, t ∈ tags) : eff tags (needless tags F) k w = eff tags F k w := (needInv g).same w k hk hw
theorem needless_length {tags : List Str} {F : Form} (g : Good tags F) : (needless tags F).length = F.length := (needInv g).p.len
theorem needless_good {tags : List Str} {F : Form} (g : Good tags F) : Good tags (needless tags F) := by
  have p := (needInv g).p
  have hl := p.len
  have key : ∀ s ∈ needless tags F, ∃ k, k < F.length ∧ s = stdOf (needless tags F) k := fun s hs => by
    obtain ⟨k, hk, e⟩ := List.mem_iff_getElem.mp hs
    have e' : (needless tags F)[k]? = some s := by rw [List.getElem?_eq_getElem hk, e]
    rw [stdOf_get hk] at e'
    exact ⟨k, by rw [← needless_length g]; exact hk, (Option.some.inj e').symm⟩
  refine ⟨by rw [needless_length g]; exact g.pos, fun s hs => ?_, fun s hs n hn => ?_, by rw [needless_length g]; exact g.small⟩
  · obtain ⟨k, hk, rfl⟩ := key s hs
    exact (p.std hk).2.1.trans (g.std_len hk)
  · obtain ⟨k, hk, rfl⟩ := key s hs
    rw [needless_length g]
    exact g.std_to hk ((p.std hk).2.2 n hn)
end QM
end

section
set_option linter.all false
set_option autoImplicit false
/-! Qleast2: classes that stay, the order in which they are met. -/
namespace QM
open PySem QB
structure Stable (F : Form) (cs : List Nat) : Prop where
  len : cs.length = F.length
  word : ∀ i j, i < F.length → j < F.length → clsOf cs i = clsOf cs j → (stdOf F i).1 = (stdOf F j).1
  ways : ∀ i j, i < F.length → j < F.length → clsOf cs i = clsOf cs j → (stdOf F i).2.map (Option.map (clsOf cs)) = (stdOf F j).2.map (Option.map (clsOf cs))
theorem way_map (tags : List Str) (s : Std) (f : Option Nat → Option Nat) (hf : f none = none) (t : Str) : way tags (s.1, s.2.map f) t = f (way tags s t) := by
  unfold way
  show ((s.2.map f)[ixOf tags t]?).join = f ((s.2[ixOf tags t]?).join)
  rw [List.getElem?_map]
  cases s.2[ixOf tags t]? with
  | none => exact hf.symm
  | some x => rfl
theorem Stable.way {F : Form} {cs : List Nat} (S : Stable F cs) (tags : List Str) {i j : Nat} (hi : i < F.length) (hj : j < F.length) (h : clsOf cs i = clsOf cs j) (t : Str) : (way tags (stdOf F i) t).map (clsOf cs) = (way tags (stdOf F j) t).map (clsOf cs) := by
  have e := S.ways i j hi hj h
  have e1 := way_map tags (stdOf F i) (Option.map (clsOf cs)) rfl t
  have e2 := way_map tags (stdOf F j) (Option.map (clsOf cs)) rfl t
  rw [← e1, ← e2, e]
  rfl
theorem Stable.eff {tags : List Str} {F : Form} {cs : List Nat} (g : Good tags F) (S : Stable F cs) : ∀ (w : Word) (i j : Nat), i < F.length → j < F.length → clsOf cs i = clsOf cs j → eff tags F i w = eff tags F j w
  | [], i, j, hi, hj, h => by
    show wordOf F i = wordOf F j
    rw [wordOf_std hi, wordOf_std hj]
    exact S.word i j hi hj h
  | t :: w, i, j, hi, hj, h => by
    rw [eff_cons, eff_cons, wayAt_std hi, wayAt_std hj, wordOf_std hi, wordOf_std hj, S.word i j hi hj h]
    have e := S.way tags hi hj h t
    cases e1 : QM.way tags (stdOf F i) t with
    | none =>
      rw [e1] at e
      cases e2 : QM.way tags (stdOf F j) t with
      | none => rfl
      | some n =>
        rw [e2] at e
        cases e
    | some m =>
      rw [e1] at e
      cases e2 : QM.way tags (stdOf F j) t with
      | none =>
        rw [e2] at e
        cases e
      | some n =>
        rw [e2] at e
        have e : some (clsOf cs m) = some (clsOf cs n) := e
        exact Stable.eff g S w m n (g.std_to hi (way_mem e1)) (g.std_to hj (way_mem e2)) (Option.some.inj e)
theorem idxOf_pre' {l t : List Nat} {x : Nat} (h : x ∈ l) : (l ++ t).idxOf x = l.idxOf x := by
  rw [List.idxOf_append, if_pos h]
theorem newStd_pre {cs met t : List Nat} {s : Std} (h : ∀ n, some n ∈ s.2 → clsOf cs n ∈ met.map (clsOf cs)) : newStd cs (met ++ t) s = newStd cs met s := by
  unfold newStd
  congr 1
  refine List.map_congr_left fun w hw => ?_
  cases w with
  | none => rfl
  | some n =>
    show some ((((met ++ t).map (clsOf cs)).idxOf (clsOf cs n))) = some ((met.map (clsOf cs)).idxOf (clsOf cs n))
    rw [List.map_append, idxOf_pre' (h n hw)]
/-- what is told so far -/
structure OrdOf (F : Form) (cs met : List Nat) (told : Form) : Prop where
  m : Met F cs met
  zero : met[0]? = some 0
  le : told.length ≤ met.length
  at_ : ∀ i, i < told.length → told[i]? = some (newStd cs met (stdOf F (met.getD i 0)))
  in_ : ∀ i, i < told.length → ∀ n, some n ∈ (stdOf F (met.getD i 0)).2 → clsOf cs n ∈ met.map (clsOf cs)
theorem getD_pre {l t : List Nat} {i : Nat} (h : i < l.length) : (l ++ t).getD i 0 = l.getD i 0 := by
  rw [List.getD_eq_getElem?_getD, List.getD_eq_getElem?_getD, List.getElem?_append_left h]
theorem OrdOf.step {tags : List Str} {F : Form} {cs met : List Nat} {told : Form} (g : Good tags F) (o : OrdOf F cs met told) (h : told.length < met.length) :
    OrdOf F cs (visitAll cs met (stdOf F (met.getD told.length 0)).2) (told ++ [newStd cs (visitAll cs met (stdOf F (met.getD told.length 0)).2) (stdOf F (met.getD told.length 0))]) := by
  have hm : met.getD told.length 0 ∈ met := by
    rw [List.getD_eq_getElem?_getD, List.getElem?_eq_getElem h]
    exact List.getElem_mem h
  have hF := o.m.lt _ hm
  obtain ⟨t, e⟩ := visitAll_pre cs (stdOf F (met.getD told.length 0)).2 met
  have has := visitAll_has cs (stdOf F (met.getD told.length 0)).2 met
  have hmet := o.m.visitAll (ws := (stdOf F (met.getD told.length 0)).2) fun n hn => g.std_to hF hn
  generalize hM : visitAll cs met (stdOf F (met.getD told.length 0)).2 = M at e has hmet
  have gd : ∀ i, i < met.length → M.getD i 0 = met.getD i 0 := fun i hi => by rw [e]; exact getD_pre hi
  have in' : ∀ i, i < told.length + 1 → ∀ n, some n ∈ (stdOf F (M.getD i 0)).2 → clsOf cs n ∈ M.map (clsOf cs) := fun i hi n hn => by
    rw [gd i (by omega)] at hn
    by_cases hl : i < told.length
    · rw [e, List.map_append]
      exact List.mem_append_left _ (o.in_ i hl n hn)
    · have : i = told.length := by omega
      subst this
      exact has n hn
  refine ⟨hmet, ?_, ?_, fun i hi => ?_, fun i hi => ?_⟩
  · rw [e, List.getElem?_append_left (by omega)]
    exact o.zero
  · rw [List.length_append, e, List.length_append]
    show told.length + 1 ≤ _
    omega
  · rw [List.length_append] at hi
    have hi : i < told.length + 1 := hi
    rw [gd i (by omega)]
    by_cases hl : i < told.length
    · rw [List.getElem?_append_left hl, o.at_ i hl, e, newStd_pre (o.in_ i hl)]
    · have : i = told.length := by omega
      subst this
      rw [List.getElem?_append_right (Nat.le_refl _), Nat.sub_self]
      rfl
  · rw [List.length_append] at hi
    exact in' i hi
theorem orderLoop_ord {tags : List Str} {F : Form} {cs : List Nat} (g : Good tags F) : ∀ (f : Nat) (met : List Nat) (told : Form), OrdOf F cs met told → F.length + 1 ≤ told.length + f → ∃ met', OrdOf F cs met' (orderLoop F cs f met told) ∧ (orderLoop F cs f met told).length = met'.length
  | 0, met, told, o, h => by
    have := o.le
    have := o.m.len
    omega
  | f + 1, met, told, o, h => by
    unfold orderLoop
    by_cases hl : told.length < met.length
    · rw [if_pos hl]
      exact orderLoop_ord g f _ _ (o.step g hl) (by rw [List.length_append]; show _ ≤ told.length + 1 + f; omega)
    · rw [if_neg hl]
      exact ⟨met, o, by have := o.le; omega⟩
theorem inOrder_ord {tags : List Str} {F : Form} (g : Good tags F) (cs : List Nat) : ∃ met, OrdOf F cs met (inOrder F cs) ∧ (inOrder F cs).length = met.length := by
  refine orderLoop_ord g (F.length + 1) [0] [] ⟨⟨by simp, fun m hm => ?_⟩, rfl, by simp, fun i hi => absurd hi (Nat.not_lt_zero _), fun i hi => absurd hi (Nat.not_lt_zero _)⟩ (by simp)
  rw [List.mem_singleton.mp hm]
  exact g.pos
theorem OrdOf.std {F : Form} {cs met : List Nat} {R : Form} (o : OrdOf F cs met R) {i : Nat} (h : i < R.length) : stdOf R i = newStd cs met (stdOf F (met.getD i 0)) := by
  have e := o.at_ i h
  rw [stdOf_get h] at e
  exact Option.some.inj e
theorem OrdOf.lt {F : Form} {cs met : List Nat} {R : Form} (o : OrdOf F cs met R) {i : Nat} (h : i < R.length) : met.getD i 0 < F.length := by
  have h' : i < met.length := Nat.lt_of_lt_of_le h o.le
  refine o.m.lt _ ?_
  rw [List.getD_eq_getElem?_getD, List.getElem?_eq_getElem h']
  exact List.getElem_mem h'
theorem OrdOf.idx {F : Form} {cs met : List Nat} {R : Form} (o : OrdOf F cs met R) (hl : R.length = met.length) {n : Nat} (h : clsOf cs n ∈ met.map (clsOf cs)) : (met.map (clsOf cs)).idxOf (clsOf cs n) < R.length ∧ clsOf cs (met.getD ((met.map (clsOf cs)).idxOf (clsOf cs n)) 0) = clsOf cs n := by
  have hlt := List.idxOf_lt_length_of_mem h
  have hlt' : (met.map (clsOf cs)).idxOf (clsOf cs n) < met.length := by rwa [List.length_map] at hlt
  refine ⟨by omega, ?_⟩
  have e := List.getElem_idxOf hlt
  rw [List.getElem_map] at e
  rw [List.getD_eq_getElem?_getD, List.getElem?_eq_getElem hlt']
  exact e
theorem OrdOf.eff {tags : List Str} {F : Form} {cs met : List Nat} {R : Form} (g : Good tags F) (S : Stable F cs) (o : OrdOf F cs met R) (hl : R.length = met.length) : ∀ (w : Word) (i : Nat), i < R.length → eff tags R i w = eff tags F (met.getD i 0) w
  | [], i, hi => by
    show wordOf R i = wordOf F _
    rw [wordOf_std hi, wordOf_std (o.lt hi), o.std hi]
    rfl
  | t :: w, i, hi => by
    rw [eff_cons, eff_cons, wayAt_std hi, wayAt_std (o.lt hi), wordOf_std hi, wordOf_std (o.lt hi), o.std hi]
    have e := way_map tags (stdOf F (met.getD i 0)) (newWay cs met) rfl t
    rw [show newStd cs met (stdOf F (met.getD i 0)) = ((stdOf F (met.getD i 0)).1, (stdOf F (met.getD i 0)).2.map (newWay cs met)) from rfl, e]
    cases e1 : way tags (stdOf F (met.getD i 0)) t with
    | none => rfl
    | some n =>
      have hn := way_mem e1
      obtain ⟨h1, h2⟩ := o.idx hl (o.in_ i hi n hn)
      show QM.eff tags R ((met.map (clsOf cs)).idxOf (clsOf cs n)) w = QM.eff tags F n w
      rw [OrdOf.eff g S o hl w _ h1]
      exact S.eff g w _ _ (o.lt h1) (g.std_to (o.lt hi) hn) h2
theorem OrdOf.good {tags : List Str} {F : Form} {cs met : List Nat} {R : Form} (g : Good tags F) (o : OrdOf F cs met R) (hl : R.length = met.length) : Good tags R := by
  have key : ∀ s ∈ R, ∃ k, k < R.length ∧ s = stdOf R k := fun s hs => by
    obtain ⟨k, hk, e⟩ := List.mem_iff_getElem.mp hs
    have e' : R[k]? = some s := by rw [List.getElem?_eq_getElem hk, e]
    rw [stdOf_get hk] at e'
    exact ⟨k, hk, (Option.some.inj e').symm⟩
  have h0 : 0 < met.length := (List.getElem?_eq_some_iff.mp o.zero).1
  refine ⟨by omega, fun s hs => ?_, fun s hs n hn => ?_, by have := o.m.len; have := g.small; omega⟩
  · obtain ⟨k, hk, rfl⟩ := key s hs
    rw [o.std hk]
    show ((stdOf F _).2.map _).length = _
    rw [List.length_map]
    exact g.std_len (o.lt hk)
  · obtain ⟨k, hk, rfl⟩ := key s hs
    rw [o.std hk] at hn
    obtain ⟨x, hx, e⟩ := List.mem_map.mp (show some n ∈ (stdOf F (met.getD k 0)).2.map (newWay cs met) from hn)
    cases x with
    | none => cases e
    | some m =>
      have e : some ((met.map (clsOf cs)).idxOf (clsOf cs m)) = some n := e
      rw [← Option.some.inj e]
      exact (o.idx hl (o.in_ k hk m hx)).1
end QM
end

section
set_option linter.all false
set_option autoImplicit false
/-! Qleast3: the classes that are found stay. -/
namespace QM
open PySem QB L2
section
variable {α : Type} [DecidableEq α]
theorem numb_cls {ms : List α} {i : Nat} {x : α} (h : ms[i]? = some x) : clsOf (QD.numb ms) i = (QD.seenOf ms).idxOf x := by
  unfold clsOf QD.numb
  rw [List.getD_eq_getElem?_getD, List.getElem?_map, h]
  rfl
theorem idxOf_inj' {l : List α} {x y : α} (hx : x ∈ l) (hy : y ∈ l) (h : l.idxOf x = l.idxOf y) : x = y := by
  have h1 := List.getElem_idxOf (List.idxOf_lt_length_of_mem hx)
  have h2 := List.getElem_idxOf (List.idxOf_lt_length_of_mem hy)
  rw [← h1, ← h2]
  congr 1
theorem numb_inj {ms : List α} {i j : Nat} {x y : α} (hi : ms[i]? = some x) (hj : ms[j]? = some y) : clsOf (QD.numb ms) i = clsOf (QD.numb ms) j ↔ x = y := by
  rw [numb_cls hi, numb_cls hj]
  constructor
  · exact idxOf_inj' ((QD.mem_seenOf ms x).mpr (List.mem_of_getElem? hi)) ((QD.mem_seenOf ms y).mpr (List.mem_of_getElem? hj))
  · exact fun e => by rw [e]
theorem idxOf_nodup {l : List α} (nd : l.Nodup) {k : Nat} (h : k < l.length) : l.idxOf l[k] = k := by
  have hm : l[k] ∈ l := List.getElem_mem h
  have h1 := List.idxOf_lt_length_of_mem hm
  have h2 := List.getElem_idxOf h1
  exact (List.getElem_inj nd).mp h2
theorem maxOf_numb {ms : List α} (h : ms ≠ []) : maxOf (QD.numb ms) + 1 = (QD.seenOf ms).length := by
  have h0 : 0 < (QD.seenOf ms).length := by
    cases ms with
    | nil => exact absurd rfl h
    | cons x r => exact List.length_pos_of_mem ((QD.mem_seenOf (x :: r) x).mpr List.mem_cons_self)
  have hk : (QD.seenOf ms).length - 1 < (QD.seenOf ms).length := by omega
  have e : maxOf (QD.numb ms) = (QD.seenOf ms).length - 1 := by
    refine maxOf_eq ?_ fun x hx => by have := numb_lt hx; omega
    have hm : (QD.seenOf ms)[(QD.seenOf ms).length - 1] ∈ ms := (QD.mem_seenOf ms _).mp (List.getElem_mem hk)
    have := idxOf_nodup (QD.seenOf_nodup ms) hk
    exact List.mem_map.mpr ⟨_, hm, this⟩
  omega
end
theorem nodup_sub_len : ∀ (l m : List Nat), l.Nodup → (∀ x ∈ l, x ∈ m) → l.length ≤ m.length
  | [], _, _, _ => Nat.zero_le _
  | x :: l, m, nd, h => by
    rw [List.nodup_cons] at nd
    have hx := h x List.mem_cons_self
    have h1 := nodup_sub_len l (m.erase x) nd.2 fun y hy => by
      have hy' := h y (List.mem_cons_of_mem _ hy)
      exact (List.mem_erase_of_ne (fun e => nd.1 (by rw [← e]; exact hy))).mpr hy'
    have h2 := List.length_erase_of_mem hx
    have h3 := List.length_pos_of_mem hx
    rw [List.length_cons]
    omega
theorem inj_of_cover {L : List Nat} {k : Nat} (hl : L.length ≤ k) (hc : ∀ x, x < k → x ∈ L) {i j x : Nat} (hi : L[i]? = some x) (hj : L[j]? = some x) : i = j := by
  rcases Nat.lt_trichotomy i j with h | h | h
  · exfalso
    have key : ∀ (i j : Nat), i ≠ j → L[i]? = some x → L[j]? = some x → False := fun i j hne hi hj => by
      have hjl : j < L.length := (List.getElem?_eq_some_iff.mp hj).1
      have h1 := nodup_sub_len (List.range k) (L.eraseIdx j) List.nodup_range fun y hy => by
        have hy' := hc y (List.mem_range.mp hy)
        obtain ⟨p, hp, e⟩ := List.mem_iff_getElem.mp hy'
        have e' : L[p]? = some y := by rw [List.getElem?_eq_getElem hp, e]
        rw [List.mem_eraseIdx_iff_getElem?]
        by_cases hpj : p = j
        · subst hpj
          rw [hj] at e'
          exact ⟨i, hne, by rw [hi]; exact e'⟩
        · exact ⟨p, hpj, e'⟩
      rw [List.length_range, List.length_eraseIdx, if_pos hjl] at h1
      omega
    exact key i j (by omega) hi hj
  · exact h
  · exfalso
    have key : ∀ (i j : Nat), i ≠ j → L[i]? = some x → L[j]? = some x → False := fun i j hne hi hj => by
      have hjl : j < L.length := (List.getElem?_eq_some_iff.mp hj).1
      have h1 := nodup_sub_len (List.range k) (L.eraseIdx j) List.nodup_range fun y hy => by
        have hy' := hc y (List.mem_range.mp hy)
        obtain ⟨p, hp, e⟩ := List.mem_iff_getElem.mp hy'
        have e' : L[p]? = some y := by rw [List.getElem?_eq_getElem hp, e]
        rw [List.mem_eraseIdx_iff_getElem?]
        by_cases hpj : p = j
        · subst hpj
          rw [hj] at e'
          exact ⟨i, hne, by rw [hi]; exact e'⟩
        · exact ⟨p, hpj, e'⟩
      rw [List.length_range, List.length_eraseIdx, if_pos hjl] at h1
      omega
    exact key i j (by omega) hi hj
/-- the class in a key -/
def keyCls : NestedKey → Nat
  | .tup (.num i :: _) => i.toNat
  | _ => 0
theorem partKeys_get {cs : List Nat} {F : Form} (hl : cs.length = F.length) {i : Nat} (hi : i < F.length) : (partKeys cs F)[i]? = some (partKey cs (clsOf cs i, stdOf F i)) := by
  have e1 : cs[i]? = some (clsOf cs i) := by
    unfold clsOf
    rw [List.getD_eq_getElem?_getD, List.getElem?_eq_getElem (by omega)]
    rfl
  have ez : (cs.zip F)[i]? = some (clsOf cs i, stdOf F i) := by
    rw [List.getElem?_zip_eq_some]
    exact ⟨e1, stdOf_get hi⟩
  unfold partKeys
  rw [List.getElem?_map, ez]
  rfl
theorem partKey_eq {cs : List Nat} {p q : Nat × Std} (h : partKey cs p = partKey cs q) : p.1 = q.1 ∧ p.2.2.map (wayNum cs) = q.2.2.map (wayNum cs) := by
  unfold partKey at h
  injection h with h
  injection h with h1 h2
  injection h1 with h1
  injection h2 with h2 _
  injection h2 with h2
  exact ⟨by omega, h2⟩
theorem wayNum_eq {cs : List Nat} {x y : Option Nat} (h : wayNum cs x = wayNum cs y) : x.map (clsOf cs) = y.map (clsOf cs) := by
  cases x with
  | none =>
    cases y with
    | none => rfl
    | some n =>
      have h : NestedKey.num (-1) = .num ((cs.getD n 0 : Nat) : Int) := h
      injection h with h
      omega
  | some m =>
    cases y with
    | none =>
      have h : NestedKey.num ((cs.getD m 0 : Nat) : Int) = .num (-1) := h
      injection h with h
      omega
    | some n =>
      have h : NestedKey.num ((cs.getD m 0 : Nat) : Int) = .num ((cs.getD n 0 : Nat) : Int) := h
      injection h with h
      show some (cs.getD m 0) = some (cs.getD n 0)
      congr 1
      omega
theorem wayNum_of {cs : List Nat} {x y : Option Nat} (h : x.map (clsOf cs) = y.map (clsOf cs)) : wayNum cs x = wayNum cs y := by
  cases x with
  | none =>
    cases y with
    | none => rfl
    | some n => cases h
  | some m =>
    cases y with
    | none => cases h
    | some n =>
      have h : some (cs.getD m 0) = some (cs.getD n 0) := h
      show NestedKey.num ((cs.getD m 0 : Nat) : Int) = .num ((cs.getD n 0 : Nat) : Int)
      rw [Option.some.inj h]
theorem part_fine {cs : List Nat} {F : Form} (hl : cs.length = F.length) {i j : Nat} (hi : i < F.length) (hj : j < F.length) (h : clsOf (part cs F) i = clsOf (part cs F) j) : clsOf cs i = clsOf cs j ∧ (stdOf F i).2.map (Option.map (clsOf cs)) = (stdOf F j).2.map (Option.map (clsOf cs)) := by
  obtain ⟨h1, h2⟩ := partKey_eq ((numb_inj (partKeys_get hl hi) (partKeys_get hl hj)).mp h)
  refine ⟨h1, ?_⟩
  have h2 : (stdOf F i).2.map (wayNum cs) = (stdOf F j).2.map (wayNum cs) := h2
  generalize (stdOf F i).2 = a at h2
  generalize (stdOf F j).2 = b at h2
  induction a generalizing b with
  | nil =>
    cases b with
    | nil => rfl
    | cons y b => cases h2
  | cons x a ih =>
    cases b with
    | nil => cases h2
    | cons y b =>
      rw [List.map_cons, List.map_cons] at h2
      injection h2 with h3 h4
      rw [List.map_cons, List.map_cons, wayNum_eq h3, ih b h4]
theorem part_coarse {α : Type} [DecidableEq α] {ms : List α} {F : Form} (hl : ms.length = F.length) (hc : (QD.seenOf (partKeys (QD.numb ms) F)).length ≤ (QD.seenOf ms).length) {i j : Nat} (hi : i < F.length) (hj : j < F.length) (h : clsOf (QD.numb ms) i = clsOf (QD.numb ms) j) :
    clsOf (part (QD.numb ms) F) i = clsOf (part (QD.numb ms) F) j := by
  have hl' : (QD.numb ms).length = F.length := by rw [QD.numb_len, hl]
  have gi := partKeys_get hl' hi
  have gj := partKeys_get hl' hj
  refine (numb_inj gi gj).mpr ?_
  have mi := (QD.mem_seenOf _ _).mpr (List.mem_of_getElem? gi)
  have mj := (QD.mem_seenOf _ _).mpr (List.mem_of_getElem? gj)
  obtain ⟨a, ha, ea⟩ := List.mem_iff_getElem.mp mi
  obtain ⟨b, hb, eb⟩ := List.mem_iff_getElem.mp mj
  have kc : ∀ p : Nat × Std, keyCls (partKey (QD.numb ms) p) = p.1 := fun p => by
    show ((p.1 : Int)).toNat = p.1
    omega
  have hcov : ∀ x, x < (QD.seenOf ms).length → x ∈ (QD.seenOf (partKeys (QD.numb ms) F)).map keyCls := fun x hx => by
    have hm : (QD.seenOf ms)[x] ∈ ms := (QD.mem_seenOf ms _).mp (List.getElem_mem hx)
    obtain ⟨p, hp, ep⟩ := List.mem_iff_getElem.mp hm
    have ep' : ms[p]? = some (QD.seenOf ms)[x] := by rw [List.getElem?_eq_getElem hp, ep]
    have e1 := numb_cls ep'
    rw [idxOf_nodup (QD.seenOf_nodup ms) hx] at e1
    have gp := partKeys_get hl' (show p < F.length by omega)
    refine List.mem_map.mpr ⟨_, (QD.mem_seenOf _ _).mpr (List.mem_of_getElem? gp), ?_⟩
    rw [kc]
    exact e1
  have e : a = b := inj_of_cover (L := (QD.seenOf (partKeys (QD.numb ms) F)).map keyCls) (k := (QD.seenOf ms).length) (by rw [List.length_map]; exact hc) hcov (x := clsOf (QD.numb ms) i)
    (by rw [List.getElem?_map, List.getElem?_eq_getElem ha, ea]; show some _ = _; rw [kc]) (by rw [List.getElem?_map, List.getElem?_eq_getElem hb, eb]; show some _ = _; rw [kc]; exact congrArg some h.symm)
  subst e
  rw [← ea, ← eb]
theorem wordKey_eq {s s' : Std} (h : wordKey s = wordKey s') : s.1 = s'.1 := by
  unfold wordKey at h
  injection h with h
  exact List.map_inj_right (fun x y e => by injection e) |>.mp h
theorem map_up {a b : Ways} {f g : Option Nat → Option Nat} {P : Option Nat → Prop} (ha : ∀ x ∈ a, P x) (hb : ∀ x ∈ b, P x) (up : ∀ x y, P x → P y → f x = f y → g x = g y) (h : a.map f = b.map f) : a.map g = b.map g := by
  induction a generalizing b with
  | nil =>
    cases b with
    | nil => rfl
    | cons y b => cases h
  | cons x a ih =>
    cases b with
    | nil => cases h
    | cons y b =>
      rw [List.map_cons, List.map_cons] at h
      injection h with h3 h4
      rw [List.map_cons, List.map_cons, up x y (ha x List.mem_cons_self) (hb y List.mem_cons_self) h3, ih (fun z hz => ha z (List.mem_cons_of_mem _ hz)) (fun z hz => hb z (List.mem_cons_of_mem _ hz)) h4]
structure AInv (F : Form) (many : Nat) (cs : List Nat) : Prop where
  num : ∃ ms : List NestedKey, cs = QD.numb ms ∧ ms.length = F.length
  word : ∀ i j, i < F.length → j < F.length → clsOf cs i = clsOf cs j → (stdOf F i).1 = (stdOf F j).1
  le : many ≤ F.length
  prev : many = 0 ∨ ∃ ms' : List NestedKey, ms'.length = F.length ∧ cs = part (QD.numb ms') F ∧ (QD.seenOf ms').length = many
theorem alikeLoop_stable {tags : List Str} {F : Form} (g : Good tags F) (hF : 0 < F.length) : ∀ (f many : Nat) (cs : List Nat), AInv F many cs → F.length + 1 ≤ f + many → Stable F (alikeLoop F f many cs)
  | 0, many, cs, a, h => by
    have := a.le
    omega
  | f + 1, many, cs, a, h => by
    obtain ⟨ms, hcs, hml⟩ := a.num
    have hne : ms ≠ [] := fun e => by
      rw [e] at hml
      have : (0 : Nat) = F.length := hml
      omega
    have hmax := maxOf_numb hne
    have hlen : cs.length = F.length := by rw [hcs, QD.numb_len, hml]
    unfold alikeLoop
    by_cases hm : many ≤ maxOf cs
    · rw [if_pos hm]
      refine alikeLoop_stable g hF f (maxOf cs + 1) (part cs F) ⟨⟨partKeys cs F, rfl, partKeys_len hlen⟩, fun i j hi hj e => ?_, ?_, .inr ⟨ms, hml, by rw [hcs], by rw [hcs]; exact hmax.symm⟩⟩ (by omega)
      · exact a.word i j hi hj (part_fine hlen hi hj e).1
      · rw [hcs, hmax]
        have := QD.seenOf_len ms
        omega
    · rw [if_neg hm]
      rcases a.prev with h0 | ⟨ms', hl', hp, hc⟩
      · omega
      · have hl2 : (QD.numb ms').length = F.length := by rw [QD.numb_len, hl']
        have hcount : (QD.seenOf (partKeys (QD.numb ms') F)).length ≤ (QD.seenOf ms').length := by
          have hpl : partKeys (QD.numb ms') F ≠ [] := fun e => by
            have := partKeys_len hl2
            rw [e] at this
            have : (0 : Nat) = F.length := this
            omega
          have := maxOf_numb hpl
          have e : maxOf cs = maxOf (QD.numb (partKeys (QD.numb ms') F)) := by rw [hp]; rfl
          omega
        refine ⟨hlen, a.word, fun i j hi hj e => ?_⟩
        rw [hp] at e ⊢
        obtain ⟨h1, h2⟩ := part_fine hl2 hi hj e
        have up : ∀ x y : Option Nat, (∀ n, x = some n → n < F.length) → (∀ n, y = some n → n < F.length) → x.map (clsOf (QD.numb ms')) = y.map (clsOf (QD.numb ms')) → x.map (clsOf (part (QD.numb ms') F)) = y.map (clsOf (part (QD.numb ms') F)) := fun x y hx hy e => by
          cases x with
          | none =>
            cases y with
            | none => rfl
            | some n => cases e
          | some m =>
            cases y with
            | none => cases e
            | some n =>
              have e : some (clsOf (QD.numb ms') m) = some (clsOf (QD.numb ms') n) := e
              show some _ = some _
              rw [part_coarse hl' hcount (hx m rfl) (hy n rfl) (Option.some.inj e)]
        exact map_up (P := fun x => ∀ n, x = some n → n < F.length) (fun x hx n e => g.std_to hi (e ▸ hx)) (fun x hx n e => g.std_to hj (e ▸ hx)) up h2
theorem alike_stable {tags : List Str} {F : Form} (g : Good tags F) : Stable F (alike F) := by
  refine alikeLoop_stable g g.pos (F.length + 1) 0 _ ⟨⟨wordKeys F, rfl, by simp [wordKeys]⟩, fun i j hi hj e => ?_, Nat.zero_le _, .inl rfl⟩ (Nat.le_refl _)
  have gi : (wordKeys F)[i]? = some (wordKey (stdOf F i)) := by
    unfold wordKeys
    rw [List.getElem?_map, stdOf_get hi]
    rfl
  have gj : (wordKeys F)[j]? = some (wordKey (stdOf F j)) := by
    unfold wordKeys
    rw [List.getElem?_map, stdOf_get hj]
    rfl
  exact wordKey_eq ((numb_inj gi gj).mp e)
/-- the least form makes what the form makes -/
theorem least_ord {tags : List Str} {F : Form} (g : Good tags F) : ∃ met, OrdOf (needless tags F) (alike (needless tags F)) met (least tags F) ∧ (least tags F).length = met.length := inOrder_ord (needless_good g) _
theorem least_eff {tags : List Str} {F : Form} (g : Good tags F) {w : Word} (hw : ∀ t ∈ w, t ∈ tags) : eff tags (least tags F) 0 w = eff tags F 0 w := by
  obtain ⟨met, o, hl⟩ := least_ord g
  have gN := needless_good g
  have h0 := o.zero
  have h1 : 0 < met.length := (List.getElem?_eq_some_iff.mp h0).1
  rw [o.eff gN (alike_stable gN) hl w 0 (by omega)]
  have e : met.getD 0 0 = 0 := by rw [List.getD_eq_getElem?_getD, h0]; rfl
  rw [e]
  exact needless_eff g g.pos hw
theorem least_make {tags : List Str} {F : Form} (g : Good tags F) {w : Word} (hw : ∀ t ∈ w, t ∈ tags) : make tags (least tags F) w = make tags F w := by
  rw [make_eff, make_eff]
  exact least_eff g hw
theorem least_good {tags : List Str} {F : Form} (g : Good tags F) : Good tags (least tags F) := by
  obtain ⟨met, o, hl⟩ := least_ord g
  exact o.good (needless_good g) hl
theorem least_len {tags : List Str} {F : Form} (g : Good tags F) : (least tags F).length ≤ F.length := by
  obtain ⟨met, o, hl⟩ := least_ord g
  have := o.m.len
  rw [needless_length g] at this
  omega
theorem least_word {tags : List Str} {F : Form} (g : Good tags F) {s : Std} (h : s ∈ least tags F) : ∃ s' ∈ F, s.1 = s'.1 := by
  obtain ⟨met, o, hl⟩ := least_ord g
  obtain ⟨k, hk, e⟩ := List.mem_iff_getElem.mp h
  have e' : (least tags F)[k]? = some s := by rw [List.getElem?_eq_getElem hk, e]
  rw [stdOf_get hk, o.std hk] at e'
  have hm := o.lt hk
  rw [needless_length g] at hm
  refine ⟨stdOf F (met.getD k 0), mem_of (stdOf_get hm), ?_⟩
  rw [← Option.some.inj e']
  exact ((needInv g).p.std hm).1
end QM
end

section
set_option linter.all false
set_option autoImplicit false
/-! Qleast4: a least form has no needless way. -/
namespace QM
open PySem QB L2
def allNone (s : Std) : Bool := s.2.all Option.isNone
structure NInv (tags : List Str) (F : Form) (P : List Nat) (st : Form × List Bool) : Prop where
  p : Pruned tags F st
  s : ∀ k ∈ P, st.2.getD k false = allNone (stdOf st.1 k)
  d : ∀ k ∈ P, ∀ t ∈ tags, ∀ m, way tags (stdOf st.1 k) t = some m → (stdOf F m).1 = (stdOf F k).1 ++ [t] → m ∈ P ∧ allNone (stdOf st.1 m) = false
theorem stdOf_set {F : Form} {k j : Nat} {s : Std} (h : k < F.length) : stdOf (F.set k s) j = if k = j then s else stdOf F j := by
  unfold stdOf
  rw [List.getD_eq_getElem?_getD, List.getD_eq_getElem?_getD]
  by_cases e : k = j
  · subst e
    rw [List.getElem?_set_self h, if_pos rfl]
    rfl
  · rw [List.getElem?_set_ne e, if_neg e]
theorem NInv.step {tags : List Str} {F : Form} {P : List Nat} {st : Form × List Bool} (g : Good tags F) (i : NInv tags F P st) {k : Nat} (hk : k < F.length) (hP : k ∉ P) (long : ∀ m, m < F.length → (stdOf F k).1.length < (stdOf F m).1.length → m ∈ P) : NInv tags F (P ++ [k]) (needStep tags F st k) := by
  have p' := i.p.step g hk
  have ss := i.p.std hk
  have gl := g.std_len hk
  have e1 : ∀ j, stdOf (needStep tags F st k).1 j = if k = j then pruneStd tags F st.2 (stdOf st.1 k) else stdOf st.1 j := fun j => stdOf_set (by rw [i.p.len]; exact hk)
  have e2 : ∀ j, (needStep tags F st k).2.getD j false = if k = j then allNone (pruneStd tags F st.2 (stdOf st.1 k)) else st.2.getD j false := fun j => by
    show (st.2.set k _).getD j false = _
    rw [List.getD_eq_getElem?_getD, List.getD_eq_getElem?_getD]
    by_cases e : k = j
    · subst e
      rw [List.getElem?_set_self (by rw [i.p.lenS]; exact hk), if_pos rfl]
      rfl
    · rw [List.getElem?_set_ne e, if_neg e]
  refine ⟨p', fun j hj => ?_, fun j hj t ht m hm hw => ?_⟩
  · rw [e1, e2]
    by_cases e : k = j
    · rw [if_pos e, if_pos e]
    · rw [if_neg e, if_neg e]
      rcases List.mem_append.mp hj with h | h
      · exact i.s j h
      · exact absurd (List.mem_singleton.mp h).symm e
  · rw [e1] at hm ⊢
    by_cases e : k = j
    · subst e
      rw [if_pos rfl, way_prune (by rw [ss.2.1, gl]) ht, ss.1] at hm
      have hw0 := pruneWay_some hm
      have hmF : m < F.length := g.std_to hk (ss.2.2 m (way_mem hw0))
      have hmP := long m hmF (by rw [hw, List.length_append]; show _ < _ + 1; omega)
      have hne : k ≠ m := fun e => hP (e ▸ hmP)
      rw [if_neg hne]
      refine ⟨List.mem_append_left _ hmP, ?_⟩
      rw [← i.s m hmP]
      rw [hw0] at hm
      have hm : (if isNeedless F st.2 (stdOf F k).1 t m = true then none else some m) = some m := hm
      cases hS : st.2.getD m false with
      | false => rfl
      | true =>
        have : isNeedless F st.2 (stdOf F k).1 t m = true := by
          unfold isNeedless
          rw [hS, decide_eq_true hw]
          rfl
        rw [if_pos this] at hm
        cases hm
    · rw [if_neg e] at hm
      rcases List.mem_append.mp hj with h | h
      · obtain ⟨h1, h2⟩ := i.d j h t ht m hm hw
        have hne : k ≠ m := fun e => hP (e ▸ h1)
        rw [if_neg hne]
        exact ⟨List.mem_append_left _ h1, h2⟩
      · exact absurd (List.mem_singleton.mp h).symm e
theorem NInv.fold {tags : List Str} {F : Form} (g : Good tags F) : ∀ (ks P : List Nat) (st : Form × List Bool), NInv tags F P st → (P ++ ks).Nodup → (∀ k, k < F.length ↔ k ∈ P ++ ks) → (ks.Pairwise fun i j => keyOf F i ≤ keyOf F j) → NInv tags F (P ++ ks) (ks.foldl (needStep tags F) st)
  | [], P, st, i, _, _, _ => by rw [List.append_nil]; exact i
  | k :: ks, P, st, i, nd, mem, pw => by
    rw [List.pairwise_cons] at pw
    have hk : k < F.length := (mem k).mpr (List.mem_append_right _ List.mem_cons_self)
    have nd' := List.nodup_append.mp nd
    have hP : k ∉ P := fun h => nd'.2.2 k h k List.mem_cons_self rfl
    have i' := i.step g hk hP fun m hm hl => by
      rcases List.mem_append.mp ((mem m).mp hm) with h | h
      · exact h
      · rcases List.mem_cons.mp h with h | h
        · rw [h] at hl
          omega
        · have := pw.1 m h
          unfold keyOf at this
          omega
    have e : P ++ k :: ks = (P ++ [k]) ++ ks := by simp
    rw [e] at nd mem ⊢
    exact NInv.fold g ks (P ++ [k]) (needStep tags F st k) i' nd mem pw.2
theorem needless_none {tags : List Str} {F : Form} (g : Good tags F) {k m : Nat} {t : Str} (hk : k < F.length) (ht : t ∈ tags) (h : way tags (stdOf (needless tags F) k) t = some m) (hw : (stdOf F m).1 = (stdOf F k).1 ++ [t]) : allNone (stdOf (needless tags F) m) = false := by
  have pm : (byLen F).Perm (List.range F.length) := List.mergeSort_perm _ _
  have pw : (byLen F).Pairwise fun i j => keyOf F i ≤ keyOf F j := by
    have := List.pairwise_mergeSort (le := fun i j => decide (keyOf F i ≤ keyOf F j)) (fun a b c h1 h2 => decide_eq_true (Int.le_trans (of_decide_eq_true h1) (of_decide_eq_true h2)))
      (fun a b => by
        rw [Bool.or_eq_true]
        rcases Int.le_total (keyOf F a) (keyOf F b) with h | h
        · exact .inl (decide_eq_true h)
        · exact .inr (decide_eq_true h)) (List.range F.length)
    exact this.imp fun h => of_decide_eq_true h
  have i := NInv.fold g (byLen F) [] (F, List.replicate F.length false) ⟨Pruned.start tags F, (fun _ h => nomatch h), fun _ h => nomatch h⟩ (pm.nodup_iff.mpr List.nodup_range) (fun k => by
    rw [List.nil_append, pm.mem_iff, List.mem_range]) pw
  rw [List.nil_append] at i
  have hkm : k ∈ byLen F := by rw [pm.mem_iff, List.mem_range]; exact hk
  exact (i.d k hkm t ht m h hw).2
theorem allNone_of {a b : Std} {f : Nat → Nat} (h : a.2.map (Option.map f) = b.2.map (Option.map f)) : allNone a = allNone b := by
  have key : ∀ s : Std, allNone s = (s.2.map (Option.map f)).all Option.isNone := fun s => by
    unfold allNone
    rw [List.all_map]
    congr 1
    funext x
    cases x <;> rfl
  rw [key, key, h]
theorem least_none {tags : List Str} {F : Form} (g : Good tags F) {i j : Nat} {t : Str} (hi : i < (least tags F).length) (ht : t ∈ tags) (h : way tags (stdOf (least tags F) i) t = some j) (hw : (stdOf (least tags F) j).1 = (stdOf (least tags F) i).1 ++ [t]) : allNone (stdOf (least tags F) j) = false := by
  obtain ⟨met, o, hl⟩ := least_ord g
  have gN := needless_good g
  have S := alike_stable gN
  have nl := needless_length g
  have p := (needInv g).p
  rw [o.std hi] at h hw
  have e := way_map tags (stdOf (needless tags F) (met.getD i 0)) (newWay (alike (needless tags F)) met) rfl t
  have h : way tags ((stdOf (needless tags F) (met.getD i 0)).1, (stdOf (needless tags F) (met.getD i 0)).2.map (newWay (alike (needless tags F)) met)) t = some j := h
  rw [e] at h
  cases e1 : way tags (stdOf (needless tags F) (met.getD i 0)) t with
  | none =>
    rw [e1] at h
    cases h
  | some m =>
    rw [e1] at h
    have h : some ((met.map (clsOf (alike (needless tags F)))).idxOf (clsOf (alike (needless tags F)) m)) = some j := h
    have hj := (Option.some.inj h).symm
    have hm := way_mem e1
    obtain ⟨h1, h2⟩ := o.idx hl (o.in_ i hi m hm)
    rw [← hj] at h1 h2
    have hmN := gN.std_to (o.lt hi) hm
    have hjN := o.lt h1
    rw [o.std h1] at hw ⊢
    have hw : (stdOf (needless tags F) (met.getD j 0)).1 = (stdOf (needless tags F) (met.getD i 0)).1 ++ [t] := hw
    rw [S.word _ _ hjN hmN h2] at hw
    have e3 : allNone (newStd (alike (needless tags F)) met (stdOf (needless tags F) (met.getD j 0))) = allNone (stdOf (needless tags F) (met.getD j 0)) := by
      unfold allNone newStd
      rw [List.all_map]
      congr 1
      funext x
      cases x <;> rfl
    rw [e3, allNone_of (S.ways _ _ hjN hmN h2)]
    have hiF : met.getD i 0 < F.length := by rw [← nl]; exact o.lt hi
    refine needless_none g hiF ht e1 ?_
    have w1 := (p.std (show m < F.length by omega)).1
    have w2 := (p.std hiF).1
    rw [← w1, ← w2]
    exact hw
theorem needless_same {tags : List Str} {R : Form} (g : Good tags R) (nd : tags.Nodup) (no : ∀ i j t, i < R.length → t ∈ tags → way tags (stdOf R i) t = some j → (stdOf R j).1 = (stdOf R i).1 ++ [t] → allNone (stdOf R j) = false) : needless tags R = R := by
  have all : ∀ (ks : List Nat) (st : Form × List Bool), st.1 = R → st.2.length = R.length → (∀ k, k < R.length → st.2.getD k false = true → allNone (stdOf R k) = true) → (∀ k ∈ ks, k < R.length) → (ks.foldl (needStep tags R) st).1 = R := by
    intro ks
    induction ks with
    | nil => exact fun st h _ _ _ => h
    | cons k ks ih =>
      intro st h1 hl h2 hk
      have hkR := hk k List.mem_cons_self
      have ps : pruneStd tags R st.2 (stdOf R k) = stdOf R k := by
        have e : pruneWays tags R st.2 (stdOf R k) = (stdOf R k).2 := by
          refine List.ext_getElem? fun q => ?_
          by_cases hq : q < tags.length
          · have e1 : tags[q]? = some tags[q] := List.getElem?_eq_getElem hq
            have hq2 : q < (stdOf R k).2.length := by rw [g.std_len hkR]; exact hq
            have e2 : (stdOf R k).2[q]? = some (stdOf R k).2[q] := List.getElem?_eq_getElem hq2
            rw [pruneWays_get e1 e2, e2]
            generalize (stdOf R k).2[q] = x at e2
            cases x with
            | none => rfl
            | some n =>
              have hn : n < R.length := g.std_to hkR (List.mem_of_getElem? e2)
              have hwy : way tags (stdOf R k) tags[q] = some n := by
                unfold way ixOf
                rw [idxOf_nodup nd hq, e2]
                rfl
              show some (if isNeedless R st.2 (stdOf R k).1 tags[q] n = true then none else some n) = some (some n)
              have hno : ¬ isNeedless R st.2 (stdOf R k).1 tags[q] n = true := fun hd => by
                unfold isNeedless at hd
                rw [Bool.and_eq_true] at hd
                have a1 := h2 n hn hd.1
                have a2 := no k n _ hkR (List.getElem_mem hq) hwy (of_decide_eq_true hd.2)
                rw [a1] at a2
                cases a2
              rw [if_neg hno]
          · rw [List.getElem?_eq_none (by rw [pruneWays_len (g.std_len hkR)]; omega), List.getElem?_eq_none (by rw [g.std_len hkR]; omega)]
        unfold pruneStd
        rw [e]
      refine ih (needStep tags R st k) ?_ (by show (st.2.set k _).length = _; rw [List.length_set, hl]) (fun j hj hs => ?_) fun j hj => hk j (List.mem_cons_of_mem _ hj)
      · show st.1.set k (pruneStd tags R st.2 (stdOf st.1 k)) = R
        rw [h1, ps]
        refine List.ext_getElem? fun q => ?_
        by_cases e : k = q
        · subst e
          rw [List.getElem?_set_self hkR, stdOf_get hkR]
        · rw [List.getElem?_set_ne e]
      · have hs : (st.2.set k (allNone (pruneStd tags R st.2 (stdOf st.1 k)))).getD j false = true := hs
        rw [h1, ps, List.getD_eq_getElem?_getD] at hs
        by_cases e : k = j
        · subst e
          rw [List.getElem?_set_self (by omega)] at hs
          exact hs
        · rw [List.getElem?_set_ne e, ← List.getD_eq_getElem?_getD] at hs
          exact h2 j hj hs
  refine all (byLen R) (R, List.replicate R.length false) rfl List.length_replicate (fun k hk h => ?_) fun k hk => byLen_lt hk
  have h : (List.replicate R.length false).getD k false = true := h
  rw [List.getD_eq_getElem?_getD, List.getElem?_replicate, if_pos hk] at h
  cases h
end QM
end

section
set_option linter.all false
set_option autoImplicit false
/-! Qleast5: the least form of a least form is itself. -/
namespace QM
open PySem QB L2
theorem map_up2 {β γ : Type} {a b : Ways} {f : Option Nat → β} {g : Option Nat → γ} {P : Option Nat → Prop} (ha : ∀ x ∈ a, P x) (hb : ∀ x ∈ b, P x) (up : ∀ x y, P x → P y → f x = f y → g x = g y) (h : a.map f = b.map f) : a.map g = b.map g := by
  induction a generalizing b with
  | nil =>
    cases b with
    | nil => rfl
    | cons y b => cases h
  | cons x a ih =>
    cases b with
    | nil => cases h
    | cons y b =>
      rw [List.map_cons, List.map_cons] at h
      injection h with h3 h4
      rw [List.map_cons, List.map_cons, up x y (ha x List.mem_cons_self) (hb y List.mem_cons_self) h3, ih (fun z hz => ha z (List.mem_cons_of_mem _ hz)) (fun z hz => hb z (List.mem_cons_of_mem _ hz)) h4]
def Resp (F : Form) (E : Nat → Nat → Prop) (cs : List Nat) : Prop := ∀ a b, a < F.length → b < F.length → E a b → clsOf cs a = clsOf cs b
theorem alike_coarse {F : Form} {E : Nat → Nat → Prop} (hw : ∀ a b, a < F.length → b < F.length → E a b → (stdOf F a).1 = (stdOf F b).1)
    (hE : ∀ cs, Resp F E cs → ∀ a b, a < F.length → b < F.length → E a b → (stdOf F a).2.map (Option.map (clsOf cs)) = (stdOf F b).2.map (Option.map (clsOf cs))) : Resp F E (alike F) := by
  have loop : ∀ (f many : Nat) (cs : List Nat), cs.length = F.length → Resp F E cs → Resp F E (alikeLoop F f many cs) := by
    intro f
    induction f with
    | zero => exact fun _ _ _ r => r
    | succ f ih =>
      intro many cs hl r
      unfold alikeLoop
      by_cases hm : many ≤ maxOf cs
      · rw [if_pos hm]
        refine ih _ _ (part_len hl) fun a b ha hb e => ?_
        refine (numb_inj (partKeys_get hl ha) (partKeys_get hl hb)).mpr ?_
        have e1 := r a b ha hb e
        have e2 : (stdOf F a).2.map (wayNum cs) = (stdOf F b).2.map (wayNum cs) := map_up2 (P := fun _ => True) (fun _ _ => trivial) (fun _ _ => trivial) (fun x y _ _ h => wayNum_of h) (hE cs r a b ha hb e)
        unfold partKey
        show NestedKey.tup [.num (clsOf cs a : Int), .tup ((stdOf F a).2.map (wayNum cs))] = .tup [.num (clsOf cs b : Int), .tup ((stdOf F b).2.map (wayNum cs))]
        rw [e1, e2]
      · rw [if_neg hm]
        exact r
  refine loop _ _ _ (by rw [QD.numb_len]; exact List.length_map _) fun a b ha hb e => ?_
  have gi : (wordKeys F)[a]? = some (wordKey (stdOf F a)) := by
    unfold wordKeys
    rw [List.getElem?_map, stdOf_get ha]
    rfl
  have gj : (wordKeys F)[b]? = some (wordKey (stdOf F b)) := by
    unfold wordKeys
    rw [List.getElem?_map, stdOf_get hb]
    rfl
  refine (numb_inj gi gj).mpr ?_
  unfold wordKey
  rw [hw a b ha hb e]
/-- the standings of a form put in order are apart -/
theorem ord_apart {tags : List Str} {F : Form} {met : List Nat} {R : Form} (g : Good tags F) (o : OrdOf F (alike F) met R) (hl : R.length = met.length) : ∀ i j, i < R.length → j < R.length → clsOf (alike R) i = clsOf (alike R) j → i = j := by
  have S := alike_stable g
  have gR := o.good g hl
  have S' := alike_stable gR
  have key : Resp F (fun a b => ∃ i j, i < R.length ∧ j < R.length ∧ clsOf (alike R) i = clsOf (alike R) j ∧ clsOf (alike F) a = clsOf (alike F) (met.getD i 0) ∧ clsOf (alike F) b = clsOf (alike F) (met.getD j 0)) (alike F) := by
    refine alike_coarse (fun a b ha hb e => ?_) fun cs r a b ha hb e => ?_
    · obtain ⟨i, j, hi, hj, h, h1, h2⟩ := e
      rw [S.word a _ ha (o.lt hi) h1, S.word b _ hb (o.lt hj) h2]
      have e := S'.word i j hi hj h
      rw [o.std hi, o.std hj] at e
      exact e
    · obtain ⟨i, j, hi, hj, h, h1, h2⟩ := e
      -- the same class of F, met
      have met_in : ∀ i, i < R.length → ∀ a, a < F.length → clsOf (alike F) a = clsOf (alike F) (met.getD i 0) → ∀ x ∈ (stdOf F a).2, ∀ m, x = some m → m < F.length ∧ clsOf (alike F) m ∈ met.map (clsOf (alike F)) := fun i hi a ha h1 x hx m e => by
        subst e
        refine ⟨g.std_to ha hx, ?_⟩
        have e := S.ways a _ ha (o.lt hi) h1
        have : some (clsOf (alike F) m) ∈ (stdOf F a).2.map (Option.map (clsOf (alike F))) := List.mem_map.mpr ⟨some m, hx, rfl⟩
        rw [e] at this
        obtain ⟨y, hy, ey⟩ := List.mem_map.mp this
        cases y with
        | none => cases ey
        | some n =>
          have ey : some (clsOf (alike F) n) = some (clsOf (alike F) m) := ey
          rw [← Option.some.inj ey]
          exact o.in_ i hi n hy
      have up1 : ∀ x y : Option Nat, (∀ m, x = some m → m < F.length ∧ clsOf (alike F) m ∈ met.map (clsOf (alike F))) → (∀ m, y = some m → m < F.length ∧ clsOf (alike F) m ∈ met.map (clsOf (alike F))) →
          x.map (clsOf (alike F)) = y.map (clsOf (alike F)) → x.map (clsOf cs) = y.map (clsOf cs) := fun x y hx hy e => by
        cases x with
        | none =>
          cases y with
          | none => rfl
          | some n => cases e
        | some m =>
          cases y with
          | none => cases e
          | some n =>
            have e : some (clsOf (alike F) m) = some (clsOf (alike F) n) := e
            obtain ⟨m1, m2⟩ := hx m rfl
            obtain ⟨n1, n2⟩ := hy n rfl
            obtain ⟨q1, q2⟩ := o.idx hl m2
            show some _ = some _
            rw [r m n m1 n1 ⟨_, _, q1, q1, rfl, q2.symm, by rw [q2]; exact (Option.some.inj e).symm⟩]
      have up2 : ∀ x y : Option Nat, (∀ m, x = some m → m < F.length ∧ clsOf (alike F) m ∈ met.map (clsOf (alike F))) → (∀ m, y = some m → m < F.length ∧ clsOf (alike F) m ∈ met.map (clsOf (alike F))) →
          (newWay (alike F) met x).map (clsOf (alike R)) = (newWay (alike F) met y).map (clsOf (alike R)) → x.map (clsOf cs) = y.map (clsOf cs) := fun x y hx hy e => by
        cases x with
        | none =>
          cases y with
          | none => rfl
          | some n => cases e
        | some m =>
          cases y with
          | none => cases e
          | some n =>
            obtain ⟨m1, m2⟩ := hx m rfl
            obtain ⟨n1, n2⟩ := hy n rfl
            obtain ⟨q1, q2⟩ := o.idx hl m2
            obtain ⟨q3, q4⟩ := o.idx hl n2
            have e : some (clsOf (alike R) ((met.map (clsOf (alike F))).idxOf (clsOf (alike F) m))) = some (clsOf (alike R) ((met.map (clsOf (alike F))).idxOf (clsOf (alike F) n))) := e
            show some _ = some _
            rw [r m n m1 n1 ⟨_, _, q1, q3, Option.some.inj e, q2.symm, q4.symm⟩]
      have mi := met_in i hi a ha h1
      have mi' := met_in i hi _ (o.lt hi) rfl
      have mj := met_in j hj b hb h2
      have mj' := met_in j hj _ (o.lt hj) rfl
      rw [map_up mi mi' up1 (S.ways a _ ha (o.lt hi) h1), map_up mj mj' up1 (S.ways b _ hb (o.lt hj) h2)]
      refine map_up2 (f := fun x => (newWay (alike F) met x).map (clsOf (alike R))) mi' mj' up2 ?_
      have e := S'.ways i j hi hj h
      rw [o.std hi, o.std hj] at e
      have e : ((stdOf F (met.getD i 0)).2.map (newWay (alike F) met)).map (Option.map (clsOf (alike R))) = ((stdOf F (met.getD j 0)).2.map (newWay (alike F) met)).map (Option.map (clsOf (alike R))) := e
      rw [List.map_map, List.map_map] at e
      exact e
  intro i j hi hj h
  have e := key _ _ (o.lt hi) (o.lt hj) ⟨i, j, hi, hj, h, rfl, rfl⟩
  have nd := o.m.nd
  have hi' : i < met.length := by omega
  have hj' : j < met.length := by omega
  have g1 : ∀ k (hk : k < met.length), (met.map (clsOf (alike F)))[k]'(by rw [List.length_map]; exact hk) = clsOf (alike F) (met.getD k 0) := fun k hk => by
    rw [List.getElem_map, List.getD_eq_getElem?_getD, List.getElem?_eq_getElem hk]
    rfl
  refine (List.getElem_inj (h₀ := by rw [List.length_map]; exact hi') (h₁ := by rw [List.length_map]; exact hj') nd).mp ?_
  rw [g1 i hi', g1 j hj']
  exact e
end QM
end

section
set_option linter.all false
set_option autoImplicit false
/-! Qleast6: a least form is in order. -/
namespace QM
open PySem QB L2
def orderMet (F : Form) (cs : List Nat) : Nat → List Nat → Form → List Nat
  | 0, met, _ => met
  | f + 1, met, told => if told.length < met.length then
      orderMet F cs f (visitAll cs met (stdOf F (met.getD told.length 0)).2) (told ++ [newStd cs (visitAll cs met (stdOf F (met.getD told.length 0)).2) (stdOf F (met.getD told.length 0))])
    else met
theorem orderMet_pre (F : Form) (cs : List Nat) : ∀ (f : Nat) (met : List Nat) (told : Form), ∃ t, orderMet F cs f met told = met ++ t
  | 0, met, _ => ⟨[], by simp [orderMet]⟩
  | f + 1, met, told => by
    unfold orderMet
    by_cases h : told.length < met.length
    · rw [if_pos h]
      obtain ⟨t1, e1⟩ := visitAll_pre cs (stdOf F (met.getD told.length 0)).2 met
      obtain ⟨t2, e2⟩ := orderMet_pre F cs f (visitAll cs met (stdOf F (met.getD told.length 0)).2) (told ++ [newStd cs (visitAll cs met (stdOf F (met.getD told.length 0)).2) (stdOf F (met.getD told.length 0))])
      exact ⟨t1 ++ t2, by rw [e2, e1, List.append_assoc]⟩
    · rw [if_neg h]
      exact ⟨[], by simp⟩
theorem orderMet_ord {tags : List Str} {F : Form} {cs : List Nat} (g : Good tags F) : ∀ (f : Nat) (met : List Nat) (told : Form), OrdOf F cs met told → F.length + 1 ≤ told.length + f → OrdOf F cs (orderMet F cs f met told) (orderLoop F cs f met told) ∧ (orderLoop F cs f met told).length = (orderMet F cs f met told).length
  | 0, met, told, o, h => by
    have := o.le
    have := o.m.len
    omega
  | f + 1, met, told, o, h => by
    unfold orderLoop orderMet
    by_cases hl : told.length < met.length
    · rw [if_pos hl, if_pos hl]
      exact orderMet_ord g f _ _ (o.step g hl) (by rw [List.length_append]; show _ ≤ told.length + 1 + f; omega)
    · rw [if_neg hl, if_neg hl]
      exact ⟨o, by have := o.le; omega⟩
section
variable {cs cs' M : List Nat} {n0 : Nat} (D : ∀ i j, i < n0 → j < n0 → clsOf cs' i = clsOf cs' j → i = j) (hM : M.length = n0)
include D hM
theorem visitAll_again : ∀ (ws : Ways) (mp t : List Nat), M = visitAll cs mp ws ++ t → visitAll cs' (List.range mp.length) (ws.map (newWay cs M)) = List.range (visitAll cs mp ws).length
  | [], mp, t, _ => rfl
  | w :: ws, mp, t, h => by
    have h' : M = visitAll cs (visit cs mp w) ws ++ t := h
    obtain ⟨t2, e2⟩ := visitAll_pre cs ws (visit cs mp w)
    have hp : M = visit cs mp w ++ (t2 ++ t) := by rw [h', e2, List.append_assoc]
    have one : visit cs' (List.range mp.length) (newWay cs M w) = List.range (visit cs mp w).length := by
      cases w with
      | none => rfl
      | some n =>
        show visit cs' (List.range mp.length) (some ((M.map (clsOf cs)).idxOf (clsOf cs n))) = _
        by_cases hm : clsOf cs n ∈ mp.map (clsOf cs)
        · have ev : visit cs mp (some n) = mp := if_pos hm
          rw [ev] at hp ⊢
          have ei : (M.map (clsOf cs)).idxOf (clsOf cs n) = (mp.map (clsOf cs)).idxOf (clsOf cs n) := by rw [hp, List.map_append, idxOf_pre' hm]
          have hlt := List.idxOf_lt_length_of_mem hm
          rw [List.length_map] at hlt
          rw [ei]
          exact if_pos (List.mem_map.mpr ⟨_, List.mem_range.mpr hlt, rfl⟩)
        · have ev : visit cs mp (some n) = mp ++ [n] := if_neg hm
          rw [ev] at hp ⊢
          have ei : (M.map (clsOf cs)).idxOf (clsOf cs n) = mp.length := by
            rw [hp, List.map_append, List.map_append, List.append_assoc, List.idxOf_append, if_neg hm, List.length_map]
            show List.idxOf (clsOf cs n) (clsOf cs n :: _) + mp.length = mp.length
            rw [List.idxOf_cons_self, Nat.zero_add]
          have hlen : mp.length < n0 := by
            rw [← hM, hp, List.length_append, List.length_append]
            show _ < _ + 1 + _
            omega
          rw [ei, List.length_append]
          have hno : clsOf cs' mp.length ∉ (List.range mp.length).map (clsOf cs') := fun hc => by
            obtain ⟨i, hi, e⟩ := List.mem_map.mp hc
            rw [List.mem_range] at hi
            have := D i mp.length (by omega) hlen e
            omega
          show (if clsOf cs' mp.length ∈ (List.range mp.length).map (clsOf cs') then List.range mp.length else List.range mp.length ++ [mp.length]) = List.range (mp.length + 1)
          rw [if_neg hno, List.range_succ]
    show visitAll cs' (visit cs' (List.range mp.length) (newWay cs M w)) (ws.map (newWay cs M)) = List.range (visitAll cs (visit cs mp w) ws).length
    rw [one]
    exact visitAll_again ws (visit cs mp w) t h'
theorem newStd_again {s : Std} {K : Nat} (hK : K ≤ n0) (hs : ∀ i, some i ∈ s.2 → i < K) : newStd cs' (List.range K) s = s := by
  have nd : ((List.range K).map (clsOf cs')).Nodup := by
    refine List.pairwise_map.mpr (List.nodup_range.imp_of_mem fun {i j} hi hj hne e => hne ?_)
    rw [List.mem_range] at hi hj
    exact D i j (by omega) (by omega) e
  unfold newStd
  have e : s.2.map (newWay cs' (List.range K)) = s.2 := by
    refine (List.map_congr_left fun x hx => ?_).trans (List.map_id _)
    cases x with
    | none => rfl
    | some i =>
      have hi := hs i hx
      have hi' : i < ((List.range K).map (clsOf cs')).length := by rw [List.length_map, List.length_range]; exact hi
      have := idxOf_nodup nd hi'
      rw [List.getElem_map, List.getElem_range] at this
      show some (((List.range K).map (clsOf cs')).idxOf (clsOf cs' i)) = some i
      rw [this]
  rw [e]
end
theorem order_again {tags : List Str} {F : Form} {cs cs' M : List Nat} {R : Form} (g : Good tags F) (oR : OrdOf F cs M R) (hM : R.length = M.length) (D : ∀ i j, i < R.length → j < R.length → clsOf cs' i = clsOf cs' j → i = j) :
    ∀ (f f' : Nat) (mp : List Nat) (told : Form), OrdOf F cs mp told → F.length + 1 ≤ told.length + f → R.length + 1 ≤ told.length + f' → orderMet F cs f mp told = M → orderLoop F cs f mp told = R → orderLoop R cs' f' (List.range mp.length) told = R
  | 0, _, mp, told, o, h, _, _, _ => by
    have := o.le
    have := o.m.len
    omega
  | f + 1, 0, mp, told, o, h, h', eM, _ => by
    obtain ⟨t, e⟩ := orderMet_pre F cs (f + 1) mp told
    rw [eM] at e
    have := o.le
    rw [hM, e, List.length_append] at h'
    omega
  | f + 1, f' + 1, mp, told, o, h, h', eM, eR => by
    unfold orderLoop at eR ⊢
    unfold orderMet at eM
    rw [List.length_range]
    by_cases hl : told.length < mp.length
    · rw [if_pos hl] at eR eM ⊢
      obtain ⟨t, et⟩ := orderMet_pre F cs f (visitAll cs mp (stdOf F (mp.getD told.length 0)).2) (told ++ [newStd cs (visitAll cs mp (stdOf F (mp.getD told.length 0)).2) (stdOf F (mp.getD told.length 0))])
      rw [eM] at et
      obtain ⟨t1, et1⟩ := visitAll_pre cs (stdOf F (mp.getD told.length 0)).2 mp
      have hs : told.length < R.length := by
        rw [hM, et, et1, List.length_append, List.length_append]
        omega
      have gd : (List.range mp.length).getD told.length 0 = told.length := by
        rw [List.getD_eq_getElem?_getD, List.getElem?_range hl]
        rfl
      have gM : M.getD told.length 0 = mp.getD told.length 0 := by
        rw [et, et1, List.append_assoc]
        exact getD_pre hl
      have sR := oR.std hs
      rw [gM] at sR
      have has := visitAll_has cs (stdOf F (mp.getD told.length 0)).2 mp
      have va := visitAll_again (cs' := cs') D hM.symm (stdOf F (mp.getD told.length 0)).2 mp t et
      have n1 : newStd cs (visitAll cs mp (stdOf F (mp.getD told.length 0)).2) (stdOf F (mp.getD told.length 0)) = stdOf R told.length := by
        rw [sR, et, newStd_pre has]
      have st := o.step g hl
      rw [n1] at eR eM st
      have hK : (visitAll cs mp (stdOf F (mp.getD told.length 0)).2).length ≤ R.length := by
        rw [hM]
        have := congrArg List.length et
        rw [List.length_append] at this
        omega
      have n2 : newStd cs' (List.range (visitAll cs mp (stdOf F (mp.getD told.length 0)).2).length) (stdOf R told.length) = stdOf R told.length := by
        refine newStd_again (cs' := cs') D hM.symm hK fun i hi => ?_
        rw [sR] at hi
        obtain ⟨x, hx, e⟩ := List.mem_map.mp (show some i ∈ (stdOf F (mp.getD told.length 0)).2.map (newWay cs M) from hi)
        cases x with
        | none => cases e
        | some n =>
          have e : some ((M.map (clsOf cs)).idxOf (clsOf cs n)) = some i := e
          have hc := has n hx
          rw [← Option.some.inj e, et, List.map_append, idxOf_pre' hc]
          have := List.idxOf_lt_length_of_mem hc
          rwa [List.length_map] at this
      have wR : (stdOf R told.length).2 = (stdOf F (mp.getD told.length 0)).2.map (newWay cs M) := by
        rw [sR]
        rfl
      rw [gd, wR, va, n2]
      exact order_again g oR hM D f f' _ _ st (by rw [List.length_append]; show _ ≤ told.length + 1 + f; omega) (by rw [List.length_append]; show _ ≤ told.length + 1 + f'; omega) eM eR
    · rw [if_neg hl] at eR ⊢
      exact eR
theorem inOrder_again {tags : List Str} {F : Form} (g : Good tags F) : inOrder (inOrder F (alike F)) (alike (inOrder F (alike F))) = inOrder F (alike F) := by
  have o0 : OrdOf F (alike F) [0] [] := ⟨⟨by simp, fun m hm => by rw [List.mem_singleton.mp hm]; exact g.pos⟩, rfl, by simp, fun i hi => absurd hi (Nat.not_lt_zero _), fun i hi => absurd hi (Nat.not_lt_zero _)⟩
  obtain ⟨o, hl⟩ := orderMet_ord g (F.length + 1) [0] [] o0 (by simp)
  have e := order_again g o hl (ord_apart g o hl) (F.length + 1) ((orderLoop F (alike F) (F.length + 1) [0] []).length + 1) [0] [] o0 (by simp) (by simp) rfl rfl
  exact e
theorem least_again {tags : List Str} {F : Form} (g : Good tags F) (nd : tags.Nodup) : least tags (least tags F) = least tags F := by
  have gR := least_good g
  have e := needless_same gR nd fun i j t hi ht h hw => least_none g hi ht h hw
  show inOrder (needless tags (least tags F)) (alike (needless tags (least tags F))) = _
  rw [e]
  exact inOrder_again (needless_good g)
end QM
end

section
set_option Elab.async false
set_option linter.all false
set_option maxRecDepth 100000
set_option maxHeartbeats 4000000
namespace Law
open PySem PySem.Spec PyProof.Rows L2 LamX QB QM
/-! lists within lists: in and index -/
theorem hu65 {A : Around} {k : Nat} (hr : Room k A) : A.units + 65 < cLine := by
  have := hr.un
  omega
section
variable (K : PySem.W.Frag) {X : Cx}
theorem op_notInDK (hu : X.A.units + 65 < cLine) (h : X.K = K := by rfl) : OpR X (compareOp .NotIn) (rNotInD K) := h ▸ op_notInD hu
theorem mt_indexDK (hu : X.A.units + 65 < cLine) (h : X.K = K := by rfl) : MtR X "list.index" (rIndexD K) := h ▸ mt_indexD hu
end
section
variable {α : Type} [DecidableEq α] {D : α → PyData} {ok : α → Prop} {n : Nat} {K : PySem.W.Frag} {H : Hp}
theorem any_enc (e : Enc D ok n) (x : α) : ∀ xs : List α, ((xs.map D).any fun z => PyData.eqv z (D x)) = decide (x ∈ xs)
  | [] => by simp
  | y :: ys => by
    rw [List.map_cons, List.any_cons, any_enc e x ys, e.eq]
    by_cases h : y = x
    · subst h
      simp
    · have h' : ¬ x = y := fun z => h z.symm
      simp [h, h']
theorem notin_enc (e : Enc D ok n) (hn : n + 1 ≤ 64) {u v : V} {x : α} {xs : List α} {Q : VK} (hx : Dp K H u (D x)) (hy : Dp K H v (.list (xs.map D))) (ox : ok x) (oxs : ∀ x ∈ xs, ok x) (q : Q (.bl (!decide (x ∈ xs))) H) : rNotInD K u v H Q :=
  ⟨_, _, hx, hy, shaped_of e (by omega) ox, shaped_of e.list hn oxs, by rw [any_enc e]; exact q⟩
theorem notin_yes (e : Enc D ok n) (hn : n + 1 ≤ 64) {u v : V} {x : α} {xs : List α} {Q : VK} (hx : Dp K H u (D x)) (hy : Dp K H v (.list (xs.map D))) (ox : ok x) (oxs : ∀ x ∈ xs, ok x) (h : x ∈ xs) (q : Q (.bl false) H) : rNotInD K u v H Q :=
  notin_enc e hn hx hy ox oxs (by rw [decide_eq_true h]; exact q)
theorem notin_no (e : Enc D ok n) (hn : n + 1 ≤ 64) {u v : V} {x : α} {xs : List α} {Q : VK} (hx : Dp K H u (D x)) (hy : Dp K H v (.list (xs.map D))) (ox : ok x) (oxs : ∀ x ∈ xs, ok x) (h : ¬ x ∈ xs) (q : Q (.bl true) H) : rNotInD K u v H Q :=
  notin_enc e hn hx hy ox oxs (by rw [decide_eq_false h]; exact q)
theorem idx_min : ∀ (xs : List α) (x z : α) (m : Nat), m < xs.idxOf x → xs[m]? = some z → z ≠ x
  | [], x, z, m, _, h => by simp at h
  | y :: ys, x, z, m, hm, h => by
    rw [List.idxOf_cons] at hm
    by_cases hy : y = x
    · subst hy
      simp at hm
    · have e : (y == x) = false := by simp [hy]
      rw [e] at hm
      cases m with
      | zero =>
        have h : y = z := Option.some.inj h
        rw [← h]
        exact hy
      | succ m =>
        have h : ys[m]? = some z := h
        exact idx_min ys x z m (by simpa using hm) h
theorem idx_get {xs : List α} {x : α} (h : x ∈ xs) : xs[xs.idxOf x]? = some x := by
  have hl := List.idxOf_lt_length_of_mem h
  rw [List.getElem?_eq_getElem hl, List.getElem_idxOf]
theorem index_enc (e : Enc D ok n) (hn : n + 1 ≤ 64) {a : Addr} {u : V} {x : α} {xs : List α} {Q : VK} (hx : Dp K H u (D x)) (hy : Dp K H (.ref a) (.list (xs.map D))) (ox : ok x) (oxs : ∀ x ∈ xs, ok x) (h : x ∈ xs) (q : Q (.int ((xs.idxOf x : Nat) : Int)) H) : rIndexD K (.ref a) [u] H Q := by
  refine ⟨a, u, D x, xs.map D, xs.idxOf x, D x, rfl, rfl, hy, hx, shaped_of e.list hn oxs, shaped_of e (by omega) ox, by rw [List.getElem?_map, idx_get h]; rfl, by rw [e.eq]; exact decide_eq_true rfl, fun m z' hm hz => ?_, q⟩
  rw [List.getElem?_map] at hz
  cases hg : xs[m]? with
  | none =>
    rw [hg] at hz
    cases hz
  | some z =>
    rw [hg] at hz
    cases hz
    rw [e.eq]
    exact decide_eq_false (idx_min xs x z m hm hg)
end
/-! the heap without some addresses: the pile and what is yet to be changed -/
def hide (M : List Addr) (H : Hp) : Hp := fun a => if a ∈ M then none else H a
theorem hide_at {M : List Addr} {a : Addr} {H : Hp} {o : HO} (n : a ∉ M) (h : H a = some o) : hide M H a = some o := by
  unfold hide
  rw [if_neg n]
  exact h
theorem hide_get {M : List Addr} {a : Addr} {H : Hp} {o : HO} (h : hide M H a = some o) : a ∉ M ∧ H a = some o := by
  unfold hide at h
  by_cases e : a ∈ M
  · rw [if_pos e] at h
    cases h
  · rw [if_neg e] at h
    exact ⟨e, h⟩
theorem hide_exc {M : List Addr} {p : Addr} {H H' : Hp} (hp : p ∈ M) (x : Exc [p] H H') : Same (hide M H) (hide M H') := fun a o h => by
  obtain ⟨n, h⟩ := hide_get h
  exact hide_at n (x a o (fun z => n (List.mem_singleton.mp z ▸ hp)) h)
theorem hide_same {M : List Addr} {H H' : Hp} (x : Same H H') : Same (hide M H) (hide M H') := fun a o h => by
  obtain ⟨n, h⟩ := hide_get h
  exact hide_at n (x a o h)
theorem hide_sub {M : List Addr} {H : Hp} : Same (hide M H) H := fun a o h => (hide_get h).2
theorem tr_same {M : List Addr} {H H' : Hp} (h : ∀ b ∈ M, H b ≠ none) (s : Same H H') : ∀ b ∈ M, H' b ≠ none := fun b hb e => h b hb (s.free e)
theorem tr_exc {M : List Addr} {p : Addr} {H H' : Hp} (h : ∀ b ∈ M, H b ≠ none) (x : Exc [p] H H') (hp : PileAt H' p) : ∀ b ∈ M, H' b ≠ none := fun b hb e => by
  by_cases z : b = p
  · subst z
    obtain ⟨_, _, _, q⟩ := hp
    rw [q] at e
    cases e
  · cases q : H b with
    | none => exact h b hb q
    | some o =>
      rw [x b o (by simpa using z) q] at e
      cases e
theorem make_sub {tags : Word} {F : Form} {wd : Word} (ok : WordsOk tags F) (h : ∀ t ∈ wd, t ∈ tags) : ∀ t ∈ make tags F wd, t ∈ tags := fun t ht => by
  unfold make at ht
  rcases List.mem_append.mp ht with h1 | h1
  · unfold wordOf at h1
    cases e : F[(walk tags F wd).1]? with
    | none =>
      rw [e] at h1
      cases h1
    | some s =>
      rw [e] at h1
      exact ok.sub s (mem_of e) t h1
  · exact h t (List.mem_of_mem_drop h1)
theorem make_len {tags : Word} {F : Form} {wd : Word} {n : Nat} (ok : ∀ s ∈ F, s.1.length ≤ n) : (make tags F wd).length ≤ n + wd.length := by
  unfold make
  rw [List.length_append, List.length_drop]
  have : (wordOf F (walk tags F wd).1).length ≤ n := by
    unfold wordOf
    cases e : F[(walk tags F wd).1]? with
    | none => exact Nat.zero_le _
    | some s => exact ok s (mem_of e)
  omega
theorem least_wordsF {tags : Word} {F : Form} (to : TagsOk tags) (fo : FormOk tags F) : WordsOk tags (least tags F) := by
  refine ⟨fun x hx => (to.names x hx).txt, fun s hs t ht => ?_, fun s hs => ?_⟩
  · obtain ⟨s', h1, h2⟩ := least_word fo.good hs
    rw [h2] at ht
    exact (fo.all s' h1).sub t ht
  · obtain ⟨s', h1, h2⟩ := least_word fo.good hs
    rw [h2]
    have := (fo.all s' h1).len
    omega
/-! the letters by their keys -/
def seenTo (ks : List Word) : Nat → List Word
  | 0 => []
  | n + 1 => if ks.getD n [] ∈ seenTo ks n then seenTo ks n else seenTo ks n ++ [ks.getD n []]
def withKey (ks : List Word) (n : Nat) (k : Word) : List Nat := (List.range n).filter fun i => decide (ks.getD i [] = k)
theorem withKey_succ (ks : List Word) (n : Nat) (k : Word) : withKey ks (n + 1) k = withKey ks n k ++ (if ks.getD n [] = k then [n] else []) := by
  unfold withKey
  rw [List.range_succ, List.filter_append, List.filter_cons]
  by_cases h : ks.getD n [] = k
  · rw [decide_eq_true h, if_pos rfl, if_pos h]
    rfl
  · rw [decide_eq_false h, if_neg (by simp), if_neg h]
    rfl
theorem withKey_same {ks : List Word} {n : Nat} : withKey ks (n + 1) (ks.getD n []) = withKey ks n (ks.getD n []) ++ [n] := by rw [withKey_succ, if_pos rfl]
theorem withKey_other {ks : List Word} {n : Nat} {k : Word} (h : k ≠ ks.getD n []) : withKey ks (n + 1) k = withKey ks n k := by rw [withKey_succ, if_neg fun z => h z.symm, List.append_nil]
theorem withKey_len (ks : List Word) (n : Nat) (k : Word) : (withKey ks n k).length ≤ n := by
  have := List.length_filter_le (fun i => decide (ks.getD i [] = k)) (List.range n)
  rw [List.length_range] at this
  exact this
theorem mem_withKey {ks : List Word} {n i : Nat} {k : Word} : i ∈ withKey ks n k ↔ i < n ∧ ks.getD i [] = k := by
  unfold withKey
  rw [List.mem_filter, List.mem_range, decide_eq_true_iff]
theorem withKey_pre {ks : List Word} {w k : Word} : ∀ {n : Nat}, n ≤ ks.length → withKey (ks ++ [w]) n k = withKey ks n k
  | 0, _ => rfl
  | n + 1, h => by
    rw [withKey_succ, withKey_succ, withKey_pre (by omega), List.getD_eq_getElem?_getD, List.getElem?_append_left (by omega), ← List.getD_eq_getElem?_getD]
theorem withKey_new {ks : List Word} {w : Word} : withKey (ks ++ [w]) (ks.length + 1) w = withKey ks ks.length w ++ [ks.length] := by
  have e : (ks ++ [w]).getD ks.length [] = w := by
    rw [List.getD_eq_getElem?_getD, List.getElem?_append_right (Nat.le_refl _), Nat.sub_self]
    rfl
  have h := withKey_same (ks := ks ++ [w]) (n := ks.length)
  rw [e, withKey_pre (Nat.le_refl _)] at h
  exact h
theorem seenTo_in {ks : List Word} {n : Nat} (h : ks.getD n [] ∈ seenTo ks n) : seenTo ks (n + 1) = seenTo ks n := by
  show (if ks.getD n [] ∈ seenTo ks n then seenTo ks n else seenTo ks n ++ [ks.getD n []]) = _
  rw [if_pos h]
theorem seenTo_out {ks : List Word} {n : Nat} (h : ¬ ks.getD n [] ∈ seenTo ks n) : seenTo ks (n + 1) = seenTo ks n ++ [ks.getD n []] := by
  show (if ks.getD n [] ∈ seenTo ks n then seenTo ks n else seenTo ks n ++ [ks.getD n []]) = _
  rw [if_neg h]
theorem seenTo_nodup (ks : List Word) : ∀ n, (seenTo ks n).Nodup
  | 0 => List.nodup_nil
  | n + 1 => by
    by_cases h : ks.getD n [] ∈ seenTo ks n
    · rw [seenTo_in h]
      exact seenTo_nodup ks n
    · rw [seenTo_out h]
      refine List.nodup_append.mpr ⟨seenTo_nodup ks n, by simp, fun a ha b hb e => ?_⟩
      rw [List.mem_singleton] at hb
      exact h (hb ▸ e ▸ ha)
theorem mem_seenTo {ks : List Word} : ∀ {n i : Nat}, i < n → ks.getD i [] ∈ seenTo ks n
  | n + 1, i, h => by
    by_cases e : ks.getD n [] ∈ seenTo ks n
    · rw [seenTo_in e]
      rcases (by omega : i < n ∨ i = n) with hi | rfl
      · exact mem_seenTo hi
      · exact e
    · rw [seenTo_out e]
      rcases (by omega : i < n ∨ i = n) with hi | rfl
      · exact List.mem_append.mpr (.inl (mem_seenTo hi))
      · exact List.mem_append.mpr (.inr (List.mem_singleton.mpr rfl))
theorem seenTo_mem {ks : List Word} {k : Word} : ∀ {n : Nat}, k ∈ seenTo ks n → ∃ i < n, ks.getD i [] = k
  | 0, h => nomatch h
  | n + 1, h => by
    by_cases e : ks.getD n [] ∈ seenTo ks n
    · rw [seenTo_in e] at h
      obtain ⟨i, hi, z⟩ := seenTo_mem h
      exact ⟨i, by omega, z⟩
    · rw [seenTo_out e] at h
      rcases List.mem_append.mp h with h | h
      · obtain ⟨i, hi, z⟩ := seenTo_mem h
        exact ⟨i, by omega, z⟩
      · exact ⟨n, by omega, (List.mem_singleton.mp h).symm⟩
theorem seenTo_len (ks : List Word) : ∀ n, (seenTo ks n).length ≤ n
  | 0 => Nat.le_refl _
  | n + 1 => by
    have := seenTo_len ks n
    by_cases h : ks.getD n [] ∈ seenTo ks n
    · rw [seenTo_in h]
      omega
    · rw [seenTo_out h, List.length_append]
      show _ + 1 ≤ _
      omega
theorem withKey_none {ks : List Word} {n : Nat} {k : Word} (h : ¬ k ∈ seenTo ks n) : withKey ks n k = [] := by
  unfold withKey
  rw [List.filter_eq_nil_iff]
  intro i hi z
  exact h (of_decide_eq_true z ▸ mem_seenTo (List.mem_range.mp hi))
/-- those of the talks that hold a letter -/
theorem filter_one {ks : List Word} {n i : Nat} (hi : i < n) : (seenTo ks n).filter (fun k => decide (i ∈ withKey ks n k)) = [ks.getD i []] := by
  have key : ∀ l : List Word, l.Nodup → ks.getD i [] ∈ l → l.filter (fun k => decide (i ∈ withKey ks n k)) = [ks.getD i []] := by
    intro l
    induction l with
    | nil => exact fun _ h => nomatch h
    | cons k l ih =>
      intro nd hm
      have nd2 := List.nodup_cons.mp nd
      rw [List.filter_cons]
      by_cases e : ks.getD i [] = k
      · rw [decide_eq_true (mem_withKey.mpr ⟨hi, e⟩), if_pos rfl, ← e]
        congr 1
        rw [List.filter_eq_nil_iff]
        intro k' hk' z
        have z2 := (mem_withKey.mp (of_decide_eq_true z)).2
        exact nd2.1 (e ▸ z2 ▸ hk')
      · rw [decide_eq_false (fun z => e (mem_withKey.mp z).2), if_neg (by simp)]
        rcases List.mem_cons.mp hm with z | z
        · exact absurd z e
        · exact ih nd2.2 z
  exact key _ (seenTo_nodup ks n) (mem_seenTo hi)
def vN (l : List Nat) : List V := l.map fun i : Nat => V.int (i : Int)
def dNs (l : List Nat) : PyData := .list (l.map fun i : Nat => PyData.int (i : Int))
theorem enc_nat : Enc (fun i : Nat => PyData.int (i : Int)) (fun _ => True) 0 := ⟨fun x y => by
    rw [enc_int.eq]
    by_cases h : x = y
    · subst h
      simp
    · rw [decide_eq_false h]
      exact decide_eq_false fun z => h (Int.ofNat.inj z), fun x _ => enc_int.lay _ trivial, fun x => enc_int.dep _⟩
theorem enc_nats : Enc dNs (fun l => ∀ x ∈ l, True) 1 := enc_nat.list
theorem dp_nats {K : PySem.W.Frag} {H : Hp} {a : Addr} {l : List Nat} (h : H a = some (.lst (vN l))) : Dp K H (.ref a) (dNs l) := .lst (SqL.of h) (dpAll_map _ _ (fun x => .int _) l)
theorem vN_len (l : List Nat) : (vN l).length = l.length := List.length_map _
theorem vN_app (l k : List Nat) : vN (l ++ k) = vN l ++ vN k := List.map_append
def keyT (w : Word) : List L2.Key := w.map Sum.inr
theorem keyT_v (w : Word) : (keyT w).map kV = vS w := by
  unfold keyT vS
  rw [List.map_map]
  rfl
theorem keyT_inj {v w : Word} (h : keyT v = keyT w) : v = w := by
  unfold keyT at h
  induction v generalizing w with
  | nil =>
    cases w with
    | nil => rfl
    | cons => cases h
  | cons x v ih =>
    cases w with
    | nil => cases h
    | cons y w =>
      rw [List.map_cons, List.map_cons] at h
      injection h with h1 h2
      rw [Sum.inr.inj h1, ih h2]
/-- lists of numbers by key -/
structure Grp (H0 H : Hp) (D : List Addr) (A : Word → Addr) (ks : List Word) (f : Word → List Nat) : Prop where
  at_ : ∀ k ∈ ks, H (A k) = some (.lst (vN (f k)))
  inj : ∀ k ∈ ks, ∀ k' ∈ ks, A k = A k' → k = k'
  new : ∀ k ∈ ks, H0 (A k) = none
  out : ∀ k ∈ ks, A k ∉ D
theorem Grp.nil {H0 H : Hp} {D : List Addr} {A : Word → Addr} {f : Word → List Nat} : Grp H0 H D A [] f := ⟨fun _ h => (nomatch h), fun _ h => (nomatch h), fun _ h => (nomatch h), fun _ h => (nomatch h)⟩
theorem Grp.same {H0 H H' : Hp} {D : List Addr} {A : Word → Addr} {ks : List Word} {f : Word → List Nat} (g : Grp H0 H D A ks f) (s : Same H H') : Grp H0 H' D A ks f := ⟨fun k h => s _ _ (g.at_ k h), g.inj, g.new, g.out⟩
theorem Grp.exc {H0 H H' : Hp} {D : List Addr} {A : Word → Addr} {ks : List Word} {f : Word → List Nat} (g : Grp H0 H D A ks f) (s : Exc D H H') : Grp H0 H' D A ks f := ⟨fun k h => s _ _ (g.out k h) (g.at_ k h), g.inj, g.new, g.out⟩
/-- one number more, its key seen -/
theorem Grp.old {H0 H : Hp} {D : List Addr} {A : Word → Addr} {ws : List Word} {n : Nat} (g : Grp H0 H D A (seenTo ws n) (withKey ws n)) (h : ws.getD n [] ∈ seenTo ws n) :
    Grp H0 (upd H (A (ws.getD n [])) (.lst (vN (withKey ws n (ws.getD n [])) ++ [V.int (n : Int)]))) D A (seenTo ws (n + 1)) (withKey ws (n + 1)) := by
  rw [seenTo_in h]
  refine ⟨fun k hk => ?_, g.inj, g.new, g.out⟩
  by_cases e : k = ws.getD n []
  · rw [e, upd_same, withKey_same, vN_app]
    rfl
  · rw [upd_ne fun z => e (g.inj _ hk _ h z), withKey_other e]
    exact g.at_ k hk
/-- one number more, its key new, in a new list -/
theorem Grp.fresh {H0 H H' : Hp} {D : List Addr} {A : Word → Addr} {ws : List Word} {n : Nat} {q : Addr} (g : Grp H0 H D A (seenTo ws n) (withKey ws n)) (h : ¬ ws.getD n [] ∈ seenTo ws n)
    (x : Exc D H H') (nq : H q = none) (n0 : H0 q = none) (qD : q ∉ D) (hq : H' q = some (.lst [V.int (n : Int)])) :
    Grp H0 H' D (fun k => if k = ws.getD n [] then q else A k) (seenTo ws (n + 1)) (withKey ws (n + 1)) := by
  rw [seenTo_out h]
  have old : ∀ {k}, k ∈ seenTo ws n → (if k = ws.getD n [] then q else A k) = A k := fun {k} hk => if_neg fun (z : k = ws.getD n []) => h (by rw [← z]; exact hk)
  have ne : ∀ {k}, k ∈ seenTo ws n → A k ≠ q := fun {k} hk z => by
    have := g.at_ k hk
    rw [z, nq] at this
    cases this
  refine ⟨fun k hk => ?_, fun k hk k' hk' e => ?_, fun k hk => ?_, fun k hk => ?_⟩
  · rcases List.mem_append.mp hk with hk | hk
    · show H' (if k = ws.getD n [] then q else A k) = _
      rw [old hk, withKey_other fun (z : k = ws.getD n []) => h (by rw [← z]; exact hk)]
      exact x _ _ (g.out k hk) (g.at_ k hk)
    · show H' (if k = ws.getD n [] then q else A k) = _
      rw [List.mem_singleton.mp hk, if_pos rfl, withKey_same, withKey_none h]
      exact hq
  · have e : (if k = ws.getD n [] then q else A k) = (if k' = ws.getD n [] then q else A k') := e
    rcases List.mem_append.mp hk with hk | hk <;> rcases List.mem_append.mp hk' with hk' | hk'
    · rw [old hk, old hk'] at e
      exact g.inj _ hk _ hk' e
    · rw [old hk, List.mem_singleton.mp hk', if_pos rfl] at e
      exact absurd e (ne hk)
    · rw [old hk', List.mem_singleton.mp hk, if_pos rfl] at e
      exact absurd e.symm (ne hk')
    · rw [List.mem_singleton.mp hk, List.mem_singleton.mp hk']
  · show H0 (if k = ws.getD n [] then q else A k) = none
    rcases List.mem_append.mp hk with hk | hk
    · rw [old hk]
      exact g.new k hk
    · rw [List.mem_singleton.mp hk, if_pos rfl]
      exact n0
  · show (if k = ws.getD n [] then q else A k) ∉ D
    rcases List.mem_append.mp hk with hk | hk
    · rw [old hk]
      exact g.out k hk
    · rw [List.mem_singleton.mp hk, if_pos rfl]
      exact qD
/-- talks that are told: a new list of new lists -/
def TalksAt (H0 H : Hp) (r : Addr) (ws : List Word) (n : Nat) : Prop := H0 r = none ∧ ∃ A, H r = some (.lst ((seenTo ws n).map fun k => V.ref (A k))) ∧ Grp H0 H [r] A (seenTo ws n) (withKey ws n)
theorem TalksAt.same {H0 H H' : Hp} {r : Addr} {ws : List Word} {n : Nat} (t : TalksAt H0 H r ws n) (s : Same H H') : TalksAt H0 H' r ws n := by
  obtain ⟨h0, A, h1, h2⟩ := t
  exact ⟨h0, A, s _ _ h1, h2.same s⟩
def dTalks (ws : List Word) (n : Nat) : PyData := .list (((seenTo ws n).map (withKey ws n)).map dNs)
theorem TalksAt.dp {K : PySem.W.Frag} {H0 H : Hp} {r : Addr} {ws : List Word} {n : Nat} (t : TalksAt H0 H r ws n) : Dp K H (.ref r) (dTalks ws n) := by
  obtain ⟨h0, A, h1, h2⟩ := t
  refine .lst (SqL.of h1) ?_
  rw [List.map_map]
  have key : ∀ l : List Word, (∀ k ∈ l, k ∈ seenTo ws n) → DpAll K H (l.map fun k => V.ref (A k)) (l.map (dNs ∘ withKey ws n)) := by
    intro l
    induction l with
    | nil => exact fun _ => .nil
    | cons k l ih => exact fun h => .cons (dp_nats (h2.at_ k (h k List.mem_cons_self))) (ih fun k' hk => h k' (List.mem_cons_of_mem _ hk))
  exact key _ fun _ h => h
theorem dTalks_ok (ws : List Word) (n : Nat) : SeqAt.shaped (dTalks ws n) = true ∧ PyData.eqv (dTalks ws n) (dTalks ws n) = true :=
  ⟨shaped_of (x := (seenTo ws n).map (withKey ws n)) enc_nats.list (by decide) fun _ _ _ _ => trivial, (enc_nats.list.eq ((seenTo ws n).map (withKey ws n)) _).trans (decide_eq_true rfl)⟩
end Law
end

section
set_option Elab.async false
set_option linter.all false
set_option maxRecDepth 100000
set_option maxHeartbeats 4000000
namespace Law
open PySem PySem.Spec PyProof.Rows L2 LamX QB QM
structure ProgsAt (C : Addr) (H : Hp) (p : Addr) (es : List Addr) (tags : Word) (Gs : List Form) : Prop where
  lst : H p = some (.lst (es.map V.ref))
  all : Paired (fun e G => EatAt C H e tags G) es Gs
theorem ProgsAt.ext {T : List (Addr × Str)} {C : Addr} {H H' : Hp} {p : Addr} {es : List Addr} {tags : Word} {Gs : List Form} (h : ProgsAt C H p es tags Gs) (x : QB.Ext T H H') : ProgsAt C H' p es tags Gs := ⟨x.lst h.lst, L2.Paired.mapP h.all fun _ _ q => q.ext x⟩
theorem ProgsAt.same {C : Addr} {H H' : Hp} {p : Addr} {es : List Addr} {tags : Word} {Gs : List Form} (h : ProgsAt C H p es tags Gs) (x : Same H H') : ProgsAt C H' p es tags Gs := h.ext (T := []) (.of x)
theorem ProgsAt.get {C : Addr} {H : Hp} {p : Addr} {es : List Addr} {tags : Word} {Gs : List Form} {k : Nat} (h : ProgsAt C H p es tags Gs) (hk : k < Gs.length) : ∃ e, es[k]? = some e ∧ EatAt C H e tags (Gs.getD k []) := by
  obtain ⟨e, h1, h2⟩ := paired_get h.all (List.getElem?_eq_getElem hk)
  refine ⟨e, h1, ?_⟩
  rw [List.getD_eq_getElem?_getD, List.getElem?_eq_getElem hk]
  exact h2
theorem ProgsAt.len {C : Addr} {H : Hp} {p : Addr} {es : List Addr} {tags : Word} {Gs : List Form} (h : ProgsAt C H p es tags Gs) : es.length = Gs.length := Paired.length h.all
section
variable {P : Program} {w : World} {K : PySem.W.Frag} {mg : Str → Option Value} {base : Heap}
def spCheckNumber : Sp := fun vs H Q _ => ∃ (n most : Int), vs = [.int n, .int most] ∧ 0 ≤ n ∧ n ≤ most ∧ Q .non H
theorem ok_check_number (X : TX K mg) : FnOk P w K mg base CX0 3 X.d_check_number.a X.d_check_number.fd ["number", "most"] spCheckNumber := by
  have nd := sc_check_number.nd
  refine X.d_check_number.F.ok sc_check_number (fun vs H Q E h => ?_) (fun cdv A outer s H vs Q E hr h => ?_)
  · obtain ⟨n, most, rfl, _⟩ := h
    rfl
  · obtain ⟨n, most, rfl, h1, h2, k⟩ := h
    refine ⟨_, (pss_one (ps_if (pt_not (pt_val (pe_call (ok_is_number X) (hr.mono (by decide)) rfl X.d_is_number.mg X.d_is_number.F.kp X.d_is_number.b .nil pass0 (pa_cons (pv 0) (pa_cons pe_int (pa_cons (pv 1) pa_nil)))))) (pss_one ps_never) pss_nil)), ?_⟩
    try dsimp only [Cx.nox, Cx.wish, cxOf]
    refine ⟨_, rfl, _, rfl, _, _, _, rfl, _, rfl, ?_⟩
    rw [decide_eq_true ⟨h1, h2⟩]
    exact iteF k
def spCheckProgs (C : Addr) : Sp := fun vs H Q _ => ∃ (p : Addr) (es : List Addr) (tags : Word) (Gs : List Form), vs = [.ref p] ∧ ProgsAt C H p es tags Gs ∧ OkWord tags ∧ 1 ≤ Gs.length ∧ Gs.length ≤ 6 ∧ ∀ H', Same H H' → Q .non H'
theorem ok_check_programs (X : TX K mg) : FnOk P w K mg base CX0 3 X.d_check_programs.a X.d_check_programs.fd ["programs"] (spCheckProgs X.c_Eater) := by
  have nd := sc_check_programs.nd
  refine X.d_check_programs.F.ok sc_check_programs (fun vs H Q E h => ?_) (fun cdv A outer s H vs Q E hr h => ?_)
  · obtain ⟨p, es, tags, Gs, rfl, _⟩ := h
    rfl
  · obtain ⟨p, es, tags, Gs, rfl, hp, ok, h1, h6, k⟩ := h
    refine ⟨_, (pss_cons (ps_if (pt_not (pt_val (pe_call (ok_is_list X) (hr.mono (by decide)) rfl X.d_is_list.mg X.d_is_list.F.kp X.d_is_list.b .nil pass0 (pa_cons (pv 0) (pa_cons pe_int (pa_cons (pe_gc rfl X.c_MOST_PROGRAMS) pa_nil)))))) (pss_one ps_never) pss_nil) (pss_one (ps_for PassesOwn.never rfl (QB.pi_enumK K (by rfl) X.n_enumerate (pa_cons (pv 0) pa_nil)) (pg_tup (by rfl) (pgs_cons (pg_name (i := 1) nd rfl (Or.inl rfl)) (pgs_cons (pg_name (i := 2) nd rfl (Or.inl rfl)) (pgs_nil)))) (pss_one (ps_if (PW.pt (pw_or (pt_not (pt_val (pe_callB (QB.call_isiK K) (by rfl) X.n_isinstance QB.bo_isinstance (pa_cons (pv 2) (pa_cons (pe_glob (v := .ref X.c_Eater) rfl X.m_Eater rfl) pa_nil))))) (pw_or1 (pt_cmpR (QB.op_neDK K hr.units) (pe_meth0 (pv 2) X.cl_Eater X.h_Eater_tags (ok_Eater_tags X) (hr.mono (by decide)) X.d_Eater_tags.b .nil pass0) (pe_meth0 (pe_ix (QB.ix_listK K) (pv 0) pe_int (fun _ _ => rfl)) X.cl_Eater X.h_Eater_tags (ok_Eater_tags X) (hr.mono (by decide)) X.d_Eater_tags.b .nil pass0) (nomark _))))) (pss_one ps_never) pss_nil))))), ?_⟩
    try dsimp only [Cx.nox, Cx.wish, cxOf]
    have hel := hp.len
    refine ⟨_, rfl, p, _, _, _, rfl, hp.lst, _, rfl, ?_⟩
    rw [decide_eq_true (by rw [List.length_map]; omega)]
    refine iteF ?_
    refine ⟨_, rfl, _, _, rfl, SqL.of hp.lst, ?_⟩
    refine for_it (walk_enum (K := K) (a := p) (xs := es.map V.ref)) (fun i σ H' => ∃ v1 v2, σ = [some (.ref p), v1, v2] ∧ Same H H') ⟨none, none, rfl, Same.refl H⟩ (fun i σ H' _ ⟨_, _, _, s1⟩ => SqL.of (s1 _ _ hp.lst)) ?_ ?_
    · rintro i v σ H1 H2 hi ⟨v1, v2, rfl, s1⟩ ⟨tp, x1, x2, rfl, ntp, rfl, e1, e2⟩
      cases e1
      rw [List.length_map] at hi
      have e2 : (es.map V.ref)[i]? = some x2 := e2
      obtain ⟨e, he, hE⟩ := (hp.same s1).get (k := i) (by omega)
      rw [List.getElem?_map, he] at e2
      cases e2
      obtain ⟨e0, he0, hE0⟩ := (hp.same s1).get (k := 0) (by omega)
      have s2 := Same.new (Same.refl H1) (o := .tup [.int (i : Int), .ref e]) ntp
      have hE := hE.same s2
      have hE0 := hE0.same s2
      have hl := s2 _ _ (s1 _ _ hp.lst)
      have tp8 : (upd H1 tp (.tup [.int (i : Int), .ref e])) tp = some (.tup [.int (i : Int), .ref e]) := upd_same
      have s12 := s1.trans s2
      generalize upd H1 tp (.tup [.int (i : Int), .ref e]) = H2 at s2 hE hE0 hl tp8 s12 ⊢
      refine ⟨tp, _, rfl, SqT.of tp8, rfl, _, _, rfl, _, _, rfl, rfl, ?_⟩
      obtain ⟨dx, a1, b1, g1, g2, g3⟩ := hE
      obtain ⟨dx2, a2, b2, f1, f2, f3⟩ := hE0
      refine ⟨_, rfl, ?_⟩
      dsimp only [tNil, tCons]
      refine ⟨_, _, _, _, true, rfl, .own _, .base (X.oc_Eater.ty X.cl_Eater g1), QO.OwnC.self, true, rfl, ?_⟩
      refine iteF ?_
      refine ⟨_, rfl, e, dx, _, rfl, g1, rfl, ?_⟩
      refine ⟨e, tags, _, rfl, ⟨dx, a1, b1, g1, g2, g3⟩, fun p1 n1 => ?_⟩
      have t1 := same_new (o := .lst (vS tags)) n1
      have w1 : WordAt (upd H2 p1 (.lst (vS tags))) p1 tags := upd_same
      generalize upd H2 p1 (.lst (vS tags)) = H3 at t1 w1 ⊢
      refine ⟨_, rfl, p, _, _, _, rfl, rfl, SqL.of (t1 _ _ hl), atI_nat (j := 0) (v := V.ref e0) (by rw [List.getElem?_map, he0]; rfl), ?_⟩
      refine ⟨e0, dx2, _, rfl, t1 _ _ f1, rfl, ?_⟩
      refine ⟨e0, tags, _, rfl, ⟨dx2, a2, b2, t1 _ _ f1, Same.word t1 f2, Same.form t1 f3⟩, fun p2 n2 => ?_⟩
      have t2 := same_new (o := .lst (vS tags)) n2
      have w2 : WordAt (upd H3 p2 (.lst (vS tags))) p2 tags := upd_same
      refine ne_wd (Same.word t2 w1) w2 ok ok ?_
      refine ⟨_, rfl, ?_⟩
      rw [decide_eq_true rfl]
      exact iteF ⟨_, _, rfl, s12.trans (t1.trans t2)⟩
    · rintro σ H1 ⟨v1, v2, rfl, s1⟩
      exact k H1 s1
def spSameTags (C : Addr) : Sp := fun vs H Q _ => ∃ (e f : Addr) (tags : Word) (G G2 : Form), vs = [.ref e, .ref f] ∧ EatAt C H e tags G ∧ EatAt C H f tags G2 ∧ OkWord tags ∧ ∀ H', Same H H' → Q .non H'
theorem ok_check_same_tags (X : TX K mg) : FnOk P w K mg base CX0 2 X.d_check_same_tags.a X.d_check_same_tags.fd ["one", "other"] (spSameTags X.c_Eater) := by
  have nd := sc_check_same_tags.nd
  refine X.d_check_same_tags.F.ok sc_check_same_tags (fun vs H Q E h => ?_) (fun cdv A outer s H vs Q E hr h => ?_)
  · obtain ⟨e, f, tags, G, G2, rfl, _⟩ := h
    rfl
  · obtain ⟨e, f, tags, G, G2, rfl, he, hf, ok, k⟩ := h
    refine ⟨_, (pss_one (ps_if (PW.pt (pw_or (pt_not (pt_val (pe_callB (QB.call_isiK K) (by rfl) X.n_isinstance QB.bo_isinstance (pa_cons (pv 1) (pa_cons (pe_glob (v := .ref X.c_Eater) rfl X.m_Eater rfl) pa_nil))))) (pw_or1 (pt_cmpR (QB.op_neDK K hr.units) (pe_meth0 (pv 1) X.cl_Eater X.h_Eater_tags (ok_Eater_tags X) (hr.mono (by decide)) X.d_Eater_tags.b .nil pass0) (pe_meth0 (pv 0) X.cl_Eater X.h_Eater_tags (ok_Eater_tags X) (hr.mono (by decide)) X.d_Eater_tags.b .nil pass0) (nomark _))))) (pss_one ps_never) pss_nil)), ?_⟩
    try dsimp only [Cx.nox, Cx.wish, cxOf]
    obtain ⟨dx, a1, b1, g1, g2, g3⟩ := he
    obtain ⟨dx2, a2, b2, f1, f2, f3⟩ := hf
    refine ⟨_, rfl, ?_⟩
    dsimp only [tNil, tCons]
    refine ⟨_, _, _, _, true, rfl, .own _, .base (X.oc_Eater.ty X.cl_Eater f1), QO.OwnC.self, true, rfl, ?_⟩
    refine iteF ?_
    refine ⟨_, rfl, f, dx2, _, rfl, f1, rfl, ?_⟩
    refine ⟨f, tags, G2, rfl, ⟨dx2, a2, b2, f1, f2, f3⟩, fun p1 n1 => ?_⟩
    have s1 := same_new (o := .lst (vS tags)) n1
    have w1 : WordAt (upd H p1 (.lst (vS tags))) p1 tags := upd_same
    generalize upd H p1 (.lst (vS tags)) = H1 at s1 w1 ⊢
    refine ⟨_, rfl, e, dx, _, rfl, s1 _ _ g1, rfl, ?_⟩
    refine ⟨e, tags, G, rfl, ⟨dx, a1, b1, s1 _ _ g1, Same.word s1 g2, Same.form s1 g3⟩, fun p2 n2 => ?_⟩
    have s2 := same_new (o := .lst (vS tags)) n2
    have w2 : WordAt (upd H1 p2 (.lst (vS tags))) p2 tags := upd_same
    refine ne_wd (Same.word s2 w1) w2 ok ok ?_
    refine ⟨_, rfl, ?_⟩
    rw [decide_eq_true rfl]
    exact iteF (k _ (s1.trans s2))
/-! mailboxes -/
def boxFs (pl ke ll : Addr) : List (Str × V) := [("_programs", .ref pl), ("_key", .ref ke), ("_letters", .ref ll)]
structure FmOk (tags : Word) (G : Form) (c : Nat) : Prop where
  good : Good tags G
  words : WordsOk tags G
  len : ∀ s ∈ G, s.1.length ≤ c
structure BoxOk (tags : Word) (Gs : List Form) (Gk : Form) : Prop where
  to : TagsOk tags
  gs : ∀ G ∈ Gs, FmOk tags G 2
  gk : FmOk tags Gk 1
  pos : 1 ≤ Gs.length
  few : Gs.length ≤ 6
def WsOk (tags : Word) (c : Nat) (ws : List Word) : Prop := ∀ wd ∈ ws, (∀ t ∈ wd, t ∈ tags) ∧ wd.length ≤ c
/-- a letter: its subject and its key -/
def LetAt (H : Hp) (tags : Word) (Gk : Form) (t : Addr) (wd : Word) : Prop := ∃ a b, H t = some (.tup [.ref a, .ref b]) ∧ WordAt H a wd ∧ WordAt H b (make tags Gk wd)
theorem LetAt.same {H H' : Hp} {tags : Word} {Gk : Form} {t : Addr} {wd : Word} (h : LetAt H tags Gk t wd) (s : Same H H') : LetAt H' tags Gk t wd := by
  obtain ⟨a, b, h1, h2, h3⟩ := h
  exact ⟨a, b, s _ _ h1, Same.word s h2, Same.word s h3⟩
structure BoxA (CE CM : Addr) (M : List Addr) (H : Hp) (m ll : Addr) (tags : Word) (Gs : List Form) (Gk : Form) (ws : List Word) (dx pl ke : Addr) (es ts : List Addr) : Prop where
  obj : hide M H m = some (.ins CM dx (boxFs pl ke ll))
  pro : ProgsAt CE (hide M H) pl es tags Gs
  key : EatAt CE (hide M H) ke tags Gk
  lst : H ll = some (.lst (ts.map V.ref))
  all : Paired (LetAt (hide M H) tags Gk) ts ws
  mem : ll ∈ M
def BoxAt (CE CM : Addr) (M : List Addr) (H : Hp) (m ll : Addr) (tags : Word) (Gs : List Form) (Gk : Form) (ws : List Word) : Prop := ∃ dx pl ke es ts, BoxA CE CM M H m ll tags Gs Gk ws dx pl ke es ts
theorem BoxA.move {CE CM : Addr} {M : List Addr} {H H' : Hp} {m ll : Addr} {tags : Word} {Gs : List Form} {Gk : Form} {ws : List Word} {dx pl ke : Addr} {es ts : List Addr} (b : BoxA CE CM M H m ll tags Gs Gk ws dx pl ke es ts) (s : Same (hide M H) (hide M H')) (e : H' ll = H ll) : BoxA CE CM M H' m ll tags Gs Gk ws dx pl ke es ts :=
  ⟨s _ _ b.obj, b.pro.same s, b.key.same s, e.trans b.lst, L2.Paired.mapP b.all fun _ _ z => z.same s, b.mem⟩
theorem BoxAt.move {CE CM : Addr} {M : List Addr} {H H' : Hp} {m ll : Addr} {tags : Word} {Gs : List Form} {Gk : Form} {ws : List Word} (b : BoxAt CE CM M H m ll tags Gs Gk ws) (s : Same (hide M H) (hide M H')) (e : H' ll = H ll) : BoxAt CE CM M H' m ll tags Gs Gk ws := by
  obtain ⟨dx, pl, ke, es, ts, b⟩ := b
  exact ⟨dx, pl, ke, es, ts, b.move s e⟩
theorem BoxA.same {CE CM : Addr} {M : List Addr} {H H' : Hp} {m ll : Addr} {tags : Word} {Gs : List Form} {Gk : Form} {ws : List Word} {dx pl ke : Addr} {es ts : List Addr} (b : BoxA CE CM M H m ll tags Gs Gk ws dx pl ke es ts) (s : Same H H') : BoxA CE CM M H' m ll tags Gs Gk ws dx pl ke es ts :=
  b.move (hide_same s) (by rw [s _ _ b.lst, b.lst])
theorem BoxAt.same {CE CM : Addr} {M : List Addr} {H H' : Hp} {m ll : Addr} {tags : Word} {Gs : List Form} {Gk : Form} {ws : List Word} (b : BoxAt CE CM M H m ll tags Gs Gk ws) (s : Same H H') : BoxAt CE CM M H' m ll tags Gs Gk ws := by
  obtain ⟨dx, pl, ke, es, ts, b⟩ := b
  exact ⟨dx, pl, ke, es, ts, b.same s⟩
def boxKeys (tags : Word) (Gk : Form) (ws : List Word) : List Word := ws.map (make tags Gk)
theorem boxKeys_get {tags : Word} {Gk : Form} {ws : List Word} {i : Nat} (hi : i < ws.length) : (boxKeys tags Gk ws).getD i [] = make tags Gk (ws[i]) := by
  unfold boxKeys
  rw [List.getD_eq_getElem?_getD, List.getElem?_map, List.getElem?_eq_getElem hi]
  rfl
theorem BoxA.get {CE CM : Addr} {M : List Addr} {H : Hp} {m ll : Addr} {tags : Word} {Gs : List Form} {Gk : Form} {ws : List Word} {dx pl ke : Addr} {es ts : List Addr} (b : BoxA CE CM M H m ll tags Gs Gk ws dx pl ke es ts) {i : Nat} (hi : i < ws.length) :
    ∃ t x y, ts[i]? = some t ∧ H t = some (.tup [.ref x, .ref y]) ∧ WordAt H x (ws[i]) ∧ WordAt H y (make tags Gk (ws[i])) := by
  obtain ⟨t, h1, x, y, h2, h3, h4⟩ := paired_get b.all (List.getElem?_eq_getElem hi)
  exact ⟨t, x, y, h1, hide_sub _ _ h2, Same.word hide_sub h3, Same.word hide_sub h4⟩
theorem BoxA.len {CE CM : Addr} {M : List Addr} {H : Hp} {m ll : Addr} {tags : Word} {Gs : List Form} {Gk : Form} {ws : List Word} {dx pl ke : Addr} {es ts : List Addr} (b : BoxA CE CM M H m ll tags Gs Gk ws dx pl ke es ts) : ts.length = ws.length := Paired.length b.all
theorem WsOk.get {tags : Word} {c : Nat} {ws : List Word} (h : WsOk tags c ws) {i : Nat} (hi : i < ws.length) : (∀ t ∈ ws[i], t ∈ tags) ∧ (ws[i]).length ≤ c := h _ (List.getElem_mem hi)
theorem BoxOk.key_ok {tags : Word} {Gs : List Form} {Gk : Form} (ok : BoxOk tags Gs Gk) {wd : Word} (h : ∀ t ∈ wd, t ∈ tags) : OkWord (make tags Gk wd) := fun t ht => (ok.to.names t (make_sub ok.gk.words h t ht)).txt
def spLenM (CE CM : Addr) : Sp := fun vs H Q _ => ∃ (M : List Addr) (m ll : Addr) (tags : Word) (Gs : List Form) (Gk : Form) (ws : List Word), vs = [.ref m] ∧ BoxAt CE CM M H m ll tags Gs Gk ws ∧ Q (.int (ws.length : Int)) H
theorem ok_Mailbox___len__ (X : TX K mg) : FnOk P w K mg base CX0 1 X.d_Mailbox___len__.a X.d_Mailbox___len__.fd ["self"] (spLenM X.c_Eater X.c_Mailbox) := by
  have nd := sc_Mailbox___len__.nd
  refine X.d_Mailbox___len__.F.ok sc_Mailbox___len__ (fun vs H Q E h => ?_) (fun cdv A outer s H vs Q E hr h => ?_)
  · obtain ⟨M, m, ll, tags, Gs, Gk, ws, rfl, _⟩ := h
    rfl
  · obtain ⟨M, m, ll, tags, Gs, Gk, ws, rfl, ⟨dx, pl, ke, es, ts, b⟩, q⟩ := h
    refine ⟨_, (pss_one (ps_ret (pe_callB (QB.call_lenK K) (by rfl) X.n_len PySem.boot_len (pa_cons (QB.pe_fldK K (pv 0) rfl) pa_nil)))), ?_⟩
    try dsimp only [Cx.nox, Cx.wish, cxOf]
    refine ⟨_, rfl, m, _, _, _, _, rfl, hide_sub _ _ b.obj, X.cl_Mailbox, X.na_Mailbox__letters, rfl, ?_⟩
    dsimp only [tNil]
    refine ⟨_, _, rfl, .inl (SqL.of b.lst), ?_⟩
    rw [List.length_map, b.len]
    exact q
/-- a letter's subject, anew -/
def spGetM (CE CM : Addr) (f : Word → Form → List Word → Nat → Word) : Sp := fun vs H Q _ => ∃ (M : List Addr) (m ll : Addr) (tags : Word) (Gs : List Form) (Gk : Form) (ws : List Word) (i : Nat), vs = [.ref m, .int (i : Int)] ∧ BoxAt CE CM M H m ll tags Gs Gk ws ∧ i < ws.length ∧
  ∀ p H', Same H H' → H p = none → WordAt H' p (f tags Gk ws i) → Q (.ref p) H'
theorem ok_Mailbox___getitem__ (X : TX K mg) : FnOk P w K mg base CX0 4 X.d_Mailbox___getitem__.a X.d_Mailbox___getitem__.fd ["self", "number"] (spGetM X.c_Eater X.c_Mailbox fun _ _ ws i => ws.getD i []) := by
  have nd := sc_Mailbox___getitem__.nd
  refine X.d_Mailbox___getitem__.F.ok sc_Mailbox___getitem__ (fun vs H Q E h => ?_) (fun cdv A outer s H vs Q E hr h => ?_)
  · obtain ⟨M, m, ll, tags, Gs, Gk, ws, i, rfl, _⟩ := h
    rfl
  · obtain ⟨M, m, ll, tags, Gs, Gk, ws, i, rfl, ⟨dx, pl, ke, es, ts, b⟩, hi, q⟩ := h
    refine ⟨_, (pss_cons (ps_expr (pe_call (ok_check_number X) (hr.mono (by decide)) rfl X.d_check_number.mg X.d_check_number.F.kp X.d_check_number.b .nil pass0 (pa_cons (pv 1) (pa_cons (pe_op op_sub (pe_callB (QB.call_lenK K) (by rfl) X.n_len PySem.boot_len (pa_cons (QB.pe_fldK K (pv 0) rfl) pa_nil)) pe_int) pa_nil)))) (pss_one (ps_ret (pe_callTy (QB.call_listK K) (by rfl) X.n_list QB.bo_list (pa_cons (pe_ix (QB.ix_tupK K) (pe_ix (QB.ix_listK K) (QB.pe_fldK K (pv 0) rfl) (pv 1) (fun _ _ => rfl)) pe_int (fun _ _ => rfl)) pa_nil))))), ?_⟩
    try dsimp only [Cx.nox, Cx.wish, cxOf]
    have ho := hide_sub _ _ b.obj
    obtain ⟨t, x, y, h1, h2, h3, h4⟩ := b.get hi
    refine ⟨_, rfl, _, rfl, m, _, _, _, _, rfl, ho, X.cl_Mailbox, X.na_Mailbox__letters, rfl, ?_⟩
    refine ⟨_, _, rfl, .inl (SqL.of b.lst), _, _, rfl, rfl, ?_⟩
    refine ⟨_, _, rfl, by omega, by rw [List.length_map, b.len]; omega, ?_⟩
    refine ⟨_, rfl, m, _, _, _, _, rfl, ho, X.cl_Mailbox, X.na_Mailbox__letters, rfl, ?_⟩
    refine ⟨_, rfl, _, _, _, _, rfl, rfl, SqL.of b.lst, atI_nat (by rw [List.getElem?_map, h1]; rfl), ?_⟩
    refine ⟨t, _, 0, _, rfl, rfl, SqT.of h2, rfl, ?_⟩
    refine ⟨x, _, rfl, .inl (SqL.of h3), fun p hp => ?_⟩
    refine q p _ (same_new hp) hp ?_
    show upd H p _ p = _
    rw [upd_same]
    show _ = some (HO.lst (vS (ws.getD i [])))
    rw [List.getD_eq_getElem?_getD, List.getElem?_eq_getElem hi]
    rfl
theorem ok_Mailbox_key_of (X : TX K mg) : FnOk P w K mg base CX0 4 X.d_Mailbox_key_of.a X.d_Mailbox_key_of.fd ["self", "number"] (spGetM X.c_Eater X.c_Mailbox fun tags Gk ws i => (boxKeys tags Gk ws).getD i []) := by
  have nd := sc_Mailbox_key_of.nd
  refine X.d_Mailbox_key_of.F.ok sc_Mailbox_key_of (fun vs H Q E h => ?_) (fun cdv A outer s H vs Q E hr h => ?_)
  · obtain ⟨M, m, ll, tags, Gs, Gk, ws, i, rfl, _⟩ := h
    rfl
  · obtain ⟨M, m, ll, tags, Gs, Gk, ws, i, rfl, ⟨dx, pl, ke, es, ts, b⟩, hi, q⟩ := h
    refine ⟨_, (pss_cons (ps_expr (pe_call (ok_check_number X) (hr.mono (by decide)) rfl X.d_check_number.mg X.d_check_number.F.kp X.d_check_number.b .nil pass0 (pa_cons (pv 1) (pa_cons (pe_op op_sub (pe_callB (QB.call_lenK K) (by rfl) X.n_len PySem.boot_len (pa_cons (QB.pe_fldK K (pv 0) rfl) pa_nil)) pe_int) pa_nil)))) (pss_one (ps_ret (pe_callTy (QB.call_listK K) (by rfl) X.n_list QB.bo_list (pa_cons (pe_ix (QB.ix_tupK K) (pe_ix (QB.ix_listK K) (QB.pe_fldK K (pv 0) rfl) (pv 1) (fun _ _ => rfl)) pe_int (fun _ _ => rfl)) pa_nil))))), ?_⟩
    try dsimp only [Cx.nox, Cx.wish, cxOf]
    have ho := hide_sub _ _ b.obj
    obtain ⟨t, x, y, h1, h2, h3, h4⟩ := b.get hi
    refine ⟨_, rfl, _, rfl, m, _, _, _, _, rfl, ho, X.cl_Mailbox, X.na_Mailbox__letters, rfl, ?_⟩
    refine ⟨_, _, rfl, .inl (SqL.of b.lst), _, _, rfl, rfl, ?_⟩
    refine ⟨_, _, rfl, by omega, by rw [List.length_map, b.len]; omega, ?_⟩
    refine ⟨_, rfl, m, _, _, _, _, rfl, ho, X.cl_Mailbox, X.na_Mailbox__letters, rfl, ?_⟩
    refine ⟨_, rfl, _, _, _, _, rfl, rfl, SqL.of b.lst, atI_nat (by rw [List.getElem?_map, h1]; rfl), ?_⟩
    refine ⟨t, _, 1, _, rfl, rfl, SqT.of h2, rfl, ?_⟩
    refine ⟨y, _, rfl, .inl (SqL.of h4), fun p hp => ?_⟩
    refine q p _ (same_new hp) hp ?_
    show upd H p _ p = _
    rw [upd_same]
    show _ = some (HO.lst (vS ((boxKeys tags Gk ws).getD i [])))
    rw [boxKeys_get hi]
/-- the numbers of the letters with a key -/
def spWithKey (CE CM : Addr) : Sp := fun vs H Q _ => ∃ (M : List Addr) (m ll k0 : Addr) (tags : Word) (Gs : List Form) (Gk : Form) (ws : List Word) (kw : Word), vs = [.ref m, .ref k0] ∧ BoxAt CE CM M H m ll tags Gs Gk ws ∧ BoxOk tags Gs Gk ∧ WsOk tags 1000 ws ∧ WordAt H k0 kw ∧ OkWord kw ∧ ws.length ≤ 1000 ∧
  ∀ p H', Same H H' → H p = none → H' p = some (.lst (vN (withKey (boxKeys tags Gk ws) ws.length kw))) → Q (.ref p) H'
theorem ok_Mailbox__with_key (X : TX K mg) : FnOk P w K mg base CX0 1 X.d_Mailbox__with_key.a X.d_Mailbox__with_key.fd ["self", "key"] (spWithKey X.c_Eater X.c_Mailbox) := by
  have nd := sc_Mailbox__with_key.nd
  refine X.d_Mailbox__with_key.F.ok sc_Mailbox__with_key (fun vs H Q E h => ?_) (fun cdv A outer s H vs Q E hr h => ?_)
  · obtain ⟨M, m, ll, k0, tags, Gs, Gk, ws, kw, rfl, _⟩ := h
    rfl
  · obtain ⟨M, m, ll, k0, tags, Gs, Gk, ws, kw, rfl, ⟨dx, pl, ke, es, ts, b⟩, ok, wo, hk0, okw, hl, q⟩ := h
    refine ⟨_, (pss_one (ps_ret (pe_lc (own := [("number", 2), ("_", 3), ("other", 4)]) (g := gTup K 2 (gCons (gName 2) (gCons (gTup K 2 (gCons (gName 3) (gCons (gName 4) (gNil)))) (gNil)))) rfl nd (QB.pi_enumK K (by rfl) X.n_enumerate (pa_cons (QB.pe_fldK K (pv 0) rfl) pa_nil)) (blkOk_by (N := ["self", "key", "number", "_", "other"]) (sc := defScope s_Mailbox__with_key) (by decide +kernel)) (fun _ _ _ _ _ => pg_tup (by rfl) (pgs_cons (pg_name (i := 2) nd rfl (Or.inl rfl)) (pgs_cons (pg_tup (by rfl) (pgs_cons (pg_name (i := 3) nd rfl (Or.inl rfl)) (pgs_cons (pg_name (i := 4) nd rfl (Or.inl rfl)) (pgs_nil)))) (pgs_nil)))) (fun _ _ _ _ _ => pts_one (pt_cmpR (QB.op_eqDK K hr.units) (pv 4) (pv 1) (nomark _))) (fun _ _ _ _ _ => (pv 2))))), ?_⟩
    try dsimp only [Cx.nox, Cx.wish, cxOf]
    have ho := hide_sub _ _ b.obj
    refine ⟨_, rfl, m, _, _, _, _, rfl, ho, X.cl_Mailbox, X.na_Mailbox__letters, rfl, ?_⟩
    dsimp only [tNil]
    refine ⟨_, _, rfl, SqL.of b.lst, fun D hD => ?_⟩
    refine lc_filter (walk_enum (K := K) (a := ll) (xs := ts.map V.ref)) hD (by rw [List.length_map, b.len]; omega) (fun H' s' => SqL.of (s' _ _ b.lst)) (fun i => .int (i : Int)) (fun i => decide ((boxKeys tags Gk ws).getD i [] = kw)) ?_ ?_
    · rintro i v H2 H3 kk N hi s2 ⟨tp, x1, x2, rfl, ntp, rfl, e1, e2⟩ y1 y2
      cases e1
      rw [List.length_map, b.len] at hi
      obtain ⟨t, x, y, h1, h2, h3, h4⟩ := (b.same s2).get hi
      have e2 : (ts.map V.ref)[i]? = some x2 := e2
      rw [List.getElem?_map, h1] at e2
      cases e2
      have s3 : Same H2 (upd H2 tp (.tup [.int (i : Int), .ref t])) := same_new ntp
      refine ⟨tp, _, rfl, SqT.of upd_same, rfl, _, _, rfl, _, _, rfl, ⟨t, _, rfl, SqT.of (s3 _ _ h2), rfl, _, _, rfl, _, _, rfl, rfl, rfl, ?_⟩⟩
      refine ⟨rfl, _, rfl, _, rfl, eq_enc enc_word (by decide) (dp_wd (Same.word s3 h4)) (dp_wd (Same.word (s2.trans s3) hk0)) (ok.key_ok (wo.get hi).1) okw ?_⟩
      rw [boxKeys_get hi] at y1 y2
      by_cases e : make tags Gk (ws[i]) = kw
      · rw [decide_eq_true e]
        exact ⟨_, rfl, iteT ⟨_, rfl, y1 (decide_eq_true e) _ s3⟩⟩
      · rw [decide_eq_false e]
        exact ⟨_, rfl, iteF (y2 (decide_eq_false e) _ s3)⟩
    · intro H2 s2 h2
      refine q D H2 s2 hD ?_
      rw [h2, List.length_map, b.len]
      rfl
theorem ok_Mailbox_talk (X : TX K mg) : FnOk P w K mg base CX0 5 X.d_Mailbox_talk.a X.d_Mailbox_talk.fd ["self", "number"]
    (fun vs H Q _ => ∃ (M : List Addr) (m ll : Addr) (tags : Word) (Gs : List Form) (Gk : Form) (ws : List Word) (i : Nat), vs = [.ref m, .int (i : Int)] ∧ BoxAt X.c_Eater X.c_Mailbox M H m ll tags Gs Gk ws ∧ BoxOk tags Gs Gk ∧ WsOk tags 1000 ws ∧ i < ws.length ∧ ws.length ≤ 1000 ∧
      ∀ p H', Same H H' → H p = none → H' p = some (.lst (vN (withKey (boxKeys tags Gk ws) ws.length ((boxKeys tags Gk ws).getD i [])))) → Q (.ref p) H') := by
  have nd := sc_Mailbox_talk.nd
  refine X.d_Mailbox_talk.F.ok sc_Mailbox_talk (fun vs H Q E h => ?_) (fun cdv A outer s H vs Q E hr h => ?_)
  · obtain ⟨M, m, ll, tags, Gs, Gk, ws, i, rfl, _⟩ := h
    rfl
  · obtain ⟨M, m, ll, tags, Gs, Gk, ws, i, rfl, b, ok, wo, hi, hl, q⟩ := h
    refine ⟨_, (pss_one (ps_ret (pe_meth (pv 0) X.cl_Mailbox X.h_Mailbox__with_key (ok_Mailbox__with_key X) (hr.mono (by decide)) X.d_Mailbox__with_key.b .nil pass0 (pa_cons (pe_meth (pv 0) X.cl_Mailbox X.h_Mailbox_key_of (ok_Mailbox_key_of X) (hr.mono (by decide)) X.d_Mailbox_key_of.b .nil pass0 (pa_cons (pv 1) pa_nil)) pa_nil)))), ?_⟩
    try dsimp only [Cx.nox, Cx.wish, cxOf]
    obtain ⟨dx, pl, ke, es, ts, b⟩ := b
    have ho := hide_sub _ _ b.obj
    refine ⟨_, rfl, m, dx, _, rfl, ho, rfl, ?_⟩
    refine ⟨_, rfl, m, dx, _, rfl, ho, rfl, ?_⟩
    refine ⟨_, rfl, M, m, ll, tags, Gs, Gk, ws, i, rfl, ⟨dx, pl, ke, es, ts, b⟩, hi, fun p H1 s1 np hp => ?_⟩
    refine ⟨M, m, ll, p, tags, Gs, Gk, ws, _, rfl, ⟨dx, pl, ke, es, ts, b.same s1⟩, ok, wo, hp, ?_, hl, fun p2 H2 s2 n2 h2 => q p2 H2 (s1.trans s2) (s1.free n2) h2⟩
    show OkWord ((boxKeys tags Gk ws).getD i [])
    rw [boxKeys_get hi]
    exact ok.key_ok (wo.get hi).1
end
end Law
end

section
set_option Elab.async false
set_option linter.all false
set_option maxRecDepth 100000
set_option maxHeartbeats 4000000
namespace Law
open PySem PySem.Spec PyProof.Rows L2 LamX QB QM
section
variable {P : Program} {w : World} {K : PySem.W.Frag} {mg : Str → Option Value} {base : Heap}
theorem not_in {M : List Addr} {H : Hp} {q : Addr} (h : ∀ b ∈ M, H b ≠ none) (n : H q = none) : q ∉ M := fun z => h q z n
/-- a list that is in M changes -/
theorem hide_mut {M : List Addr} {H : Hp} {a : Addr} {o : HO} (h : a ∈ M) : Same (hide M H) (hide M (upd H a o)) := fun b u z => by
  obtain ⟨n, z⟩ := hide_get z
  exact hide_at n ((upd_ne fun (e : b = a) => n (by rw [e]; exact h)).trans z)
theorem exc_mut {H : Hp} {a : Addr} {o : HO} : Exc [a] H (upd H a o) := fun b u n z => (upd_ne (by simpa using n)).trans z
/-- what is told of a letter that came -/
def Came (CE CM : Addr) (M : List Addr) (H : Hp) (m ll : Addr) (tags : Word) (Gs : List Form) (Gk : Form) (ws : List Word) (wd : Word) (Q : VK) : Prop := ∀ H', BoxAt CE CM M H' m ll tags Gs Gk (ws ++ [wd]) → Exc [ll] H H' → H' ll ≠ none → Q (.int (ws.length : Int)) H'
def spCome (CE CM : Addr) : Sp := fun vs H Q _ => ∃ (M : List Addr) (m ll a : Addr) (tags : Word) (Gs : List Form) (Gk : Form) (ws : List Word) (wd : Word), vs = [.ref m, .ref a] ∧ BoxAt CE CM M H m ll tags Gs Gk ws ∧ BoxOk tags Gs Gk ∧ (∀ b ∈ M, H b ≠ none) ∧
  WordAt H a wd ∧ a ∉ M ∧ (∀ t ∈ wd, t ∈ tags) ∧ wd.length ≤ 200 ∧ ws.length ≤ 1000 ∧ Came CE CM M H m ll tags Gs Gk ws wd Q
theorem ok_Mailbox__come (X : TX K mg) : FnOk P w K mg base CX0 5 X.d_Mailbox__come.a X.d_Mailbox__come.fd ["self", "subject"] (spCome X.c_Eater X.c_Mailbox) := by
  have nd := sc_Mailbox__come.nd
  refine X.d_Mailbox__come.F.ok sc_Mailbox__come (fun vs H Q E h => ?_) (fun cdv A outer s H vs Q E hr h => ?_)
  · obtain ⟨M, m, ll, a, tags, Gs, Gk, ws, wd, rfl, _⟩ := h
    rfl
  · obtain ⟨M, m, ll, a, tags, Gs, Gk, ws, wd, rfl, ⟨dx, pl, ke, es, ts, b⟩, ok, T0, ha, aM, hin, hwd, hl, q⟩ := h
    refine ⟨_, (pss_cons (ps_expr (QB.pe_bmK K PySem.F.plainAttrs_list PySem.F.slot_list_append PySem.F.type_list_append mt_append (QB.pe_fldK K (pv 0) rfl) (pa_cons (pe_tup (pa_cons (pv 1) (pa_cons (pe_meth (QB.pe_fldK K (pv 0) rfl) X.cl_Eater X.h_Eater_on (ok_Eater_on X) (hr.mono (by decide)) X.d_Eater_on.b .nil pass0 (pa_cons (pv 1) pa_nil)) pa_nil))) pa_nil))) (pss_one (ps_ret (pe_op op_sub (pe_callB (QB.call_lenK K) (by rfl) X.n_len PySem.boot_len (pa_cons (QB.pe_fldK K (pv 0) rfl) pa_nil)) pe_int)))), ?_⟩
    try dsimp only [Cx.nox, Cx.wish, cxOf]
    have ho := hide_sub _ _ b.obj
    have hke := b.key.same hide_sub
    obtain ⟨dx2, a2, b2, k1, k2, k3⟩ := hke
    have htl := b.len
    refine ⟨_, rfl, m, _, _, _, _, rfl, ho, X.cl_Mailbox, X.na_Mailbox__letters, rfl, ?_⟩
    refine ⟨.inl ⟨rfl, _, SqL.of b.lst⟩, ?_⟩
    refine ⟨_, rfl, ?_⟩
    refine ⟨_, rfl, m, _, _, _, _, rfl, ho, X.cl_Mailbox, X.na_Mailbox__key, rfl, ?_⟩
    refine ⟨ke, dx2, _, rfl, k1, rfl, ?_⟩
    refine ⟨_, rfl, ke, a, tags, Gk, wd, rfl, ⟨dx2, a2, b2, k1, k2, k3⟩, ha, ok.gk.good, hin, hwd, fun s hs => by have := ok.gk.len s hs; omega, fun p H1 s1 np hp => ?_⟩
    refine ⟨by show 2 ≤ sizeLine; decide, fun t nt => ?_⟩
    have s2 : Same H1 (upd H1 t (.tup [.ref a, .ref p])) := same_new nt
    have s12 := s1.trans s2
    have pM := not_in T0 np
    have tM := not_in T0 (s1.free nt)
    have b2 := b.same s12
    have ht : (upd H1 t (.tup [.ref a, .ref p])) t = some (.tup [.ref a, .ref p]) := upd_same
    have hp := s2 _ _ hp
    have ha := s12 _ _ ha
    generalize upd H1 t (.tup [.ref a, .ref p]) = H2 at s2 s12 b2 ht hp ha ⊢
    refine ⟨ll, _, _, rfl, rfl, b2.lst, sz_lt (by rw [List.length_map, htl]; omega), ?_⟩
    have hm : m ≠ ll := fun z => (hide_get b2.obj).1 (z ▸ b2.mem)
    have bb : BoxA X.c_Eater X.c_Mailbox M (upd H2 ll (.lst (ts.map V.ref ++ [.ref t]))) m ll tags Gs Gk (ws ++ [wd]) dx pl ke es (ts ++ [t]) := by
      have hs : Same (hide M H2) (hide M (upd H2 ll (.lst (ts.map V.ref ++ [.ref t])))) := hide_mut b2.mem
      exact ⟨hs _ _ b2.obj, b2.pro.same hs, b2.key.same hs, by rw [upd_same, List.map_append]; rfl, Paired.snoc (L2.Paired.mapP b2.all fun _ _ z => z.same hs) ⟨a, p, hs _ _ (hide_at tM ht), hs _ _ (hide_at aM ha), hs _ _ (hide_at pM hp)⟩, b2.mem⟩
    refine ⟨_, rfl, m, _, _, _, _, rfl, (upd_ne hm).trans (s12 _ _ ho), X.cl_Mailbox, X.na_Mailbox__letters, rfl, ?_⟩
    refine ⟨_, _, rfl, .inl (SqL.of upd_same), _, _, rfl, rfl, ?_⟩
    have e : (((ts.map V.ref ++ [V.ref t]).length : Nat) : Int) - 1 = (ws.length : Int) := by
      rw [List.length_append, List.length_map, htl]
      show ((ws.length + 1 : Nat) : Int) - 1 = _
      omega
    show Q (V.int (_ - 1)) _
    rw [e]
    exact q _ ⟨dx, pl, ke, es, ts ++ [t], bb⟩ ((Exc.of s12).trans exc_mut) (by rw [upd_same]; exact fun z => nomatch z)
def spBegin (CE CM : Addr) : Sp := fun vs H Q _ => ∃ (M : List Addr) (m ll a : Addr) (tags : Word) (Gs : List Form) (Gk : Form) (ws : List Word) (wd : Word), vs = [.ref m, .ref a] ∧ BoxAt CE CM M H m ll tags Gs Gk ws ∧ BoxOk tags Gs Gk ∧ (∀ b ∈ M, H b ≠ none) ∧
  WordAt H a wd ∧ (∀ t ∈ wd, t ∈ tags) ∧ wd.length ≤ 200 ∧ ws.length ≤ 1000 ∧ Came CE CM M H m ll tags Gs Gk ws wd Q
theorem ok_Mailbox_begin (X : TX K mg) : FnOk P w K mg base CX0 6 X.d_Mailbox_begin.a X.d_Mailbox_begin.fd ["self", "subject"] (spBegin X.c_Eater X.c_Mailbox) := by
  have nd := sc_Mailbox_begin.nd
  refine X.d_Mailbox_begin.F.ok sc_Mailbox_begin (fun vs H Q E h => ?_) (fun cdv A outer s H vs Q E hr h => ?_)
  · obtain ⟨M, m, ll, a, tags, Gs, Gk, ws, wd, rfl, _⟩ := h
    rfl
  · obtain ⟨M, m, ll, a, tags, Gs, Gk, ws, wd, rfl, ⟨dx, pl, ke, es, ts, b⟩, ok, T0, ha, hin, hwd, hl, q⟩ := h
    refine ⟨_, (pss_cons (ps_expr (pe_call (ok_check_word X) (hr.mono (by decide)) rfl X.d_check_word.mg X.d_check_word.F.kp X.d_check_word.b .nil pass0 (pa_cons (pe_meth0 (QB.pe_fldK K (pv 0) rfl) X.cl_Eater X.h_Eater_tags (ok_Eater_tags X) (hr.mono (by decide)) X.d_Eater_tags.b .nil pass0) (pa_cons (pv 1) (pa_cons (pe_gc rfl X.c_LONGEST_SUBJECT) pa_nil))))) (pss_one (ps_ret (pe_meth (pv 0) X.cl_Mailbox X.h_Mailbox__come (ok_Mailbox__come X) (hr.mono (by decide)) X.d_Mailbox__come.b .nil pass0 (pa_cons (pe_callTy (QB.call_listK K) (by rfl) X.n_list QB.bo_list (pa_cons (pv 1) pa_nil)) pa_nil))))), ?_⟩
    try dsimp only [Cx.nox, Cx.wish, cxOf]
    have ho := hide_sub _ _ b.obj
    have hke := b.key.same hide_sub
    obtain ⟨dx2, a2, b2, k1, k2, k3⟩ := hke
    refine ⟨_, rfl, m, _, _, _, _, rfl, ho, X.cl_Mailbox, X.na_Mailbox__key, rfl, ?_⟩
    refine ⟨ke, dx2, _, rfl, k1, rfl, ?_⟩
    refine ⟨ke, tags, Gk, rfl, ⟨dx2, a2, b2, k1, k2, k3⟩, fun p np => ?_⟩
    have s1 : Same H (upd H p (.lst (vS tags))) := same_new np
    have hp : WordAt (upd H p (.lst (vS tags))) p tags := upd_same
    refine ⟨_, rfl, p, a, tags, wd, 200, rfl, hp, Same.word s1 ha, by omega, hin, fun H2 s2 => ?_⟩
    have s12 := s1.trans s2
    refine ⟨_, rfl, m, dx, _, rfl, s12 _ _ ho, rfl, ?_⟩
    refine ⟨_, rfl, _, _, rfl, .inl (SqL.of (Same.word s12 ha)), fun c nc => ?_⟩
    have s3 : Same H2 (upd H2 c (.lst (vS wd))) := same_new nc
    have s := s12.trans s3
    have T3 : ∀ b ∈ M, H2 b ≠ none := tr_same T0 s12
    exact ⟨M, m, ll, c, tags, Gs, Gk, ws, wd, rfl, ⟨dx, pl, ke, es, ts, b.same s⟩, ok, tr_same T0 s, upd_same, not_in T3 nc, hin, hwd, hl, fun H' b' x n => q H' b' ((Exc.of s).trans x) n⟩
/-- what an answer's subject is -/
def ansOf (tags : Word) (Gs : List Form) (ws : List Word) (i j : Nat) : Word := make tags (Gs.getD j []) (ws.getD i [])
def spAnsw (CE CM : Addr) (R : List Addr → Hp → Addr → Addr → Word → List Form → Form → List Word → Nat → Nat → VK → Prop) : Sp := fun vs H Q _ => ∃ (M : List Addr) (m ll : Addr) (tags : Word) (Gs : List Form) (Gk : Form) (ws : List Word) (i j : Nat), vs = [.ref m, .int (i : Int), .int (j : Int)] ∧
  BoxAt CE CM M H m ll tags Gs Gk ws ∧ BoxOk tags Gs Gk ∧ WsOk tags 100 ws ∧ (∀ b ∈ M, H b ≠ none) ∧ i < ws.length ∧ j < Gs.length ∧ ws.length ≤ 1000 ∧ R M H m ll tags Gs Gk ws i j Q
theorem ans_ok {tags : Word} {Gs : List Form} {Gk : Form} {ws : List Word} {i j : Nat} (ok : BoxOk tags Gs Gk) (wo : WsOk tags 100 ws) (hi : i < ws.length) (hj : j < Gs.length) : (∀ t ∈ ansOf tags Gs ws i j, t ∈ tags) ∧ (ansOf tags Gs ws i j).length ≤ 102 ∧ (ansOf tags Gs ws i j).length ≤ 2 + (ws[i]).length := by
  have e1 : Gs.getD j [] = Gs[j] := by
    rw [List.getD_eq_getElem?_getD, List.getElem?_eq_getElem hj]
    rfl
  have e2 : ws.getD i [] = ws[i] := by
    rw [List.getD_eq_getElem?_getD, List.getElem?_eq_getElem hi]
    rfl
  unfold ansOf
  rw [e1, e2]
  have g := ok.gs _ (List.getElem_mem hj)
  have := make_len (tags := tags) (wd := ws[i]) g.len
  have := (wo.get hi).2
  exact ⟨make_sub g.words (wo.get hi).1, by omega, this |> fun _ => by omega⟩
theorem ok_Mailbox__answered (X : TX K mg) : FnOk P w K mg base CX0 5 X.d_Mailbox__answered.a X.d_Mailbox__answered.fd ["self", "number", "program"]
    (spAnsw X.c_Eater X.c_Mailbox fun _ H _ _ tags Gs _ ws i j Q => ∀ p H', Same H H' → H p = none → WordAt H' p (ansOf tags Gs ws i j) → Q (.ref p) H') := by
  have nd := sc_Mailbox__answered.nd
  refine X.d_Mailbox__answered.F.ok sc_Mailbox__answered (fun vs H Q E h => ?_) (fun cdv A outer s H vs Q E hr h => ?_)
  · obtain ⟨M, m, ll, tags, Gs, Gk, ws, i, j, rfl, _⟩ := h
    rfl
  · obtain ⟨M, m, ll, tags, Gs, Gk, ws, i, j, rfl, ⟨dx, pl, ke, es, ts, b⟩, ok, wo, T0, hi, hj, hl, q⟩ := h
    refine ⟨_, (pss_cons (ps_expr (pe_call (ok_check_number X) (hr.mono (by decide)) rfl X.d_check_number.mg X.d_check_number.F.kp X.d_check_number.b .nil pass0 (pa_cons (pv 1) (pa_cons (pe_op op_sub (pe_callB (QB.call_lenK K) (by rfl) X.n_len PySem.boot_len (pa_cons (QB.pe_fldK K (pv 0) rfl) pa_nil)) pe_int) pa_nil)))) (pss_cons (ps_expr (pe_call (ok_check_number X) (hr.mono (by decide)) rfl X.d_check_number.mg X.d_check_number.F.kp X.d_check_number.b .nil pass0 (pa_cons (pv 2) (pa_cons (pe_op op_sub (pe_callB (QB.call_lenK K) (by rfl) X.n_len PySem.boot_len (pa_cons (QB.pe_fldK K (pv 0) rfl) pa_nil)) pe_int) pa_nil)))) (pss_cons (ps_set (i := 3) nd rfl (Or.inl rfl) (pe_meth (pe_ix (QB.ix_listK K) (QB.pe_fldK K (pv 0) rfl) (pv 2) (fun _ _ => rfl)) X.cl_Eater X.h_Eater_on (ok_Eater_on X) (hr.mono (by decide)) X.d_Eater_on.b .nil pass0 (pa_cons (pe_ix (QB.ix_tupK K) (pe_ix (QB.ix_listK K) (QB.pe_fldK K (pv 0) rfl) (pv 1) (fun _ _ => rfl)) pe_int (fun _ _ => rfl)) pa_nil))) (pss_cons (ps_if (pt_cmpR op_gt (pe_callB (QB.call_lenK K) (by rfl) X.n_len PySem.boot_len (pa_cons (pv 3) pa_nil)) (pe_gc rfl X.c_LONGEST_SUBJECT) (nomark _)) (pss_one ps_never) pss_nil) (pss_one (ps_ret (pv 3))))))), ?_⟩
    try dsimp only [Cx.nox, Cx.wish, cxOf]
    have ho := hide_sub _ _ b.obj
    have hp := b.pro.same hide_sub
    have hel := hp.len
    obtain ⟨t, x, y, h1, h2, h3, h4⟩ := b.get hi
    obtain ⟨e, he1, he2⟩ := hp.get hj
    obtain ⟨dx2, a2, b2, k1, k2, k3⟩ := he2
    have a1 := ans_ok ok wo hi hj
    have e1 : Gs.getD j [] = Gs[j] := by
      rw [List.getD_eq_getElem?_getD, List.getElem?_eq_getElem hj]
      rfl
    have e2 : ws.getD i [] = ws[i] := by
      rw [List.getD_eq_getElem?_getD, List.getElem?_eq_getElem hi]
      rfl
    have g : FmOk tags (Gs.getD j []) 2 := e1 ▸ ok.gs _ (List.getElem_mem hj)
    have FL : ∀ {f : Str}, True := fun {f} => trivial
    refine ⟨_, rfl, _, rfl, m, _, _, _, _, rfl, ho, X.cl_Mailbox, X.na_Mailbox__letters, rfl, ?_⟩
    refine ⟨_, _, rfl, .inl (SqL.of b.lst), _, _, rfl, rfl, ?_⟩
    refine ⟨_, _, rfl, by omega, by rw [List.length_map, b.len]; omega, ?_⟩
    refine ⟨_, rfl, _, rfl, m, _, _, _, _, rfl, ho, X.cl_Mailbox, X.na_Mailbox__programs, rfl, ?_⟩
    refine ⟨_, _, rfl, .inl (SqL.of hp.lst), _, _, rfl, rfl, ?_⟩
    refine ⟨_, _, rfl, by omega, by rw [List.length_map, hel]; omega, ?_⟩
    refine ⟨_, rfl, m, _, _, _, _, rfl, ho, X.cl_Mailbox, X.na_Mailbox__programs, rfl, ?_⟩
    refine ⟨_, rfl, _, _, _, _, rfl, rfl, SqL.of hp.lst, atI_nat (by rw [List.getElem?_map, he1]; rfl), ?_⟩
    refine ⟨e, dx2, _, rfl, k1, rfl, ?_⟩
    refine ⟨_, rfl, m, _, _, _, _, rfl, ho, X.cl_Mailbox, X.na_Mailbox__letters, rfl, ?_⟩
    refine ⟨_, rfl, _, _, _, _, rfl, rfl, SqL.of b.lst, atI_nat (by rw [List.getElem?_map, h1]; rfl), ?_⟩
    refine ⟨t, _, 0, _, rfl, rfl, SqT.of h2, rfl, ?_⟩
    refine ⟨e, x, tags, Gs.getD j [], ws[i], rfl, ⟨dx2, a2, b2, k1, k2, k3⟩, h3, g.good, (wo.get hi).1, by have := (wo.get hi).2; omega, fun s hs => by have := g.len s hs; omega, fun p H1 s1 np hpp => ?_⟩
    have hw : WordAt H1 p (ansOf tags Gs ws i j) := by
      unfold ansOf
      rw [e2]
      exact hpp
    refine ⟨_, rfl, _, _, rfl, .inl (SqL.of hw), _, _, rfl, rfl, _, rfl, ?_⟩
    rw [vS_len, decide_eq_false (by have := a1.2.1; omega)]
    refine iteF ?_
    exact ⟨_, rfl, q p H1 s1 np hw⟩
theorem ok_Mailbox_answer (X : TX K mg) : FnOk P w K mg base CX0 6 X.d_Mailbox_answer.a X.d_Mailbox_answer.fd ["self", "number", "program"]
    (spAnsw X.c_Eater X.c_Mailbox fun M H m ll tags Gs Gk ws i j Q => Came X.c_Eater X.c_Mailbox M H m ll tags Gs Gk ws (ansOf tags Gs ws i j) Q) := by
  have nd := sc_Mailbox_answer.nd
  refine X.d_Mailbox_answer.F.ok sc_Mailbox_answer (fun vs H Q E h => ?_) (fun cdv A outer s H vs Q E hr h => ?_)
  · obtain ⟨M, m, ll, tags, Gs, Gk, ws, i, j, rfl, _⟩ := h
    rfl
  · obtain ⟨M, m, ll, tags, Gs, Gk, ws, i, j, rfl, b, ok, wo, T0, hi, hj, hl, q⟩ := h
    refine ⟨_, (pss_one (ps_ret (pe_meth (pv 0) X.cl_Mailbox X.h_Mailbox__come (ok_Mailbox__come X) (hr.mono (by decide)) X.d_Mailbox__come.b .nil pass0 (pa_cons (pe_meth (pv 0) X.cl_Mailbox X.h_Mailbox__answered (ok_Mailbox__answered X) (hr.mono (by decide)) X.d_Mailbox__answered.b .nil pass0 (pa_cons (pv 1) (pa_cons (pv 2) pa_nil))) pa_nil)))), ?_⟩
    try dsimp only [Cx.nox, Cx.wish, cxOf]
    obtain ⟨dx, pl, ke, es, ts, b⟩ := b
    have ho := hide_sub _ _ b.obj
    have a1 := ans_ok ok wo hi hj
    refine ⟨_, rfl, m, dx, _, rfl, ho, rfl, ?_⟩
    refine ⟨_, rfl, m, dx, _, rfl, ho, rfl, ?_⟩
    refine ⟨_, rfl, _, rfl, M, m, ll, tags, Gs, Gk, ws, i, j, rfl, ⟨dx, pl, ke, es, ts, b⟩, ok, wo, T0, hi, hj, hl, fun p H1 s1 np hp => ?_⟩
    exact ⟨M, m, ll, p, tags, Gs, Gk, ws, _, rfl, ⟨dx, pl, ke, es, ts, b.same s1⟩, ok, tr_same T0 s1, hp, not_in T0 np, a1.1, by have := a1.2.1; omega, hl, fun H' b' x n => q H' b' ((Exc.of s1).trans x) n⟩
theorem ok_Mailbox_tried (X : TX K mg) : FnOk P w K mg base CX0 6 X.d_Mailbox_tried.a X.d_Mailbox_tried.fd ["self", "number", "program"]
    (spAnsw X.c_Eater X.c_Mailbox fun M H m ll tags Gs Gk ws i j Q => ∀ p H', Same H H' → H p = none → H' p = some (.lst (vN (withKey (boxKeys tags Gk ws) ws.length (make tags Gk (ansOf tags Gs ws i j)) ++ [ws.length]))) → Q (.ref p) H') := by
  have nd := sc_Mailbox_tried.nd
  refine X.d_Mailbox_tried.F.ok sc_Mailbox_tried (fun vs H Q E h => ?_) (fun cdv A outer s H vs Q E hr h => ?_)
  · obtain ⟨M, m, ll, tags, Gs, Gk, ws, i, j, rfl, _⟩ := h
    rfl
  · obtain ⟨M, m, ll, tags, Gs, Gk, ws, i, j, rfl, b, ok, wo, T0, hi, hj, hl, q⟩ := h
    refine ⟨_, (pss_one (ps_ret (pe_op op_cat (pe_meth (pv 0) X.cl_Mailbox X.h_Mailbox__with_key (ok_Mailbox__with_key X) (hr.mono (by decide)) X.d_Mailbox__with_key.b .nil pass0 (pa_cons (pe_meth (QB.pe_fldK K (pv 0) rfl) X.cl_Eater X.h_Eater_on (ok_Eater_on X) (hr.mono (by decide)) X.d_Eater_on.b .nil pass0 (pa_cons (pe_meth (pv 0) X.cl_Mailbox X.h_Mailbox__answered (ok_Mailbox__answered X) (hr.mono (by decide)) X.d_Mailbox__answered.b .nil pass0 (pa_cons (pv 1) (pa_cons (pv 2) pa_nil))) pa_nil)) pa_nil)) (pe_lst (pa_cons (pe_callB (QB.call_lenK K) (by rfl) X.n_len PySem.boot_len (pa_cons (QB.pe_fldK K (pv 0) rfl) pa_nil)) pa_nil))))), ?_⟩
    try dsimp only [Cx.nox, Cx.wish, cxOf]
    obtain ⟨dx, pl, ke, es, ts, b⟩ := b
    have ho := hide_sub _ _ b.obj
    have hke := b.key.same hide_sub
    obtain ⟨dx2, a2, b2, k1, k2, k3⟩ := hke
    have a1 := ans_ok ok wo hi hj
    refine ⟨_, rfl, m, dx, _, rfl, ho, rfl, ?_⟩
    refine ⟨_, rfl, m, _, _, _, _, rfl, ho, X.cl_Mailbox, X.na_Mailbox__key, rfl, ?_⟩
    refine ⟨ke, dx2, _, rfl, k1, rfl, ?_⟩
    refine ⟨_, rfl, m, dx, _, rfl, ho, rfl, ?_⟩
    refine ⟨_, rfl, _, rfl, M, m, ll, tags, Gs, Gk, ws, i, j, rfl, ⟨dx, pl, ke, es, ts, b⟩, ok, wo, T0, hi, hj, hl, fun p H1 s1 np hp => ?_⟩
    refine ⟨ke, p, tags, Gk, ansOf tags Gs ws i j, rfl, ⟨dx2, a2, b2, s1 _ _ k1, Same.word s1 k2, Same.form s1 k3⟩, hp, ok.gk.good, a1.1, by have := a1.2.1; omega, fun s hs => by have := ok.gk.len s hs; omega, fun p2 H2 s2 n2 h2 => ?_⟩
    have s12 := s1.trans s2
    refine ⟨M, m, ll, p2, tags, Gs, Gk, ws, make tags Gk (ansOf tags Gs ws i j), rfl, ⟨dx, pl, ke, es, ts, b.same s12⟩, ok, fun wd hw => ⟨(wo wd hw).1, by have := (wo wd hw).2; omega⟩, h2, ok.key_ok a1.1, hl, fun p3 H3 s3 n3 h3 => ?_⟩
    have s13 := s12.trans s3
    refine ⟨_, rfl, m, _, _, _, _, rfl, s13 _ _ ho, X.cl_Mailbox, X.na_Mailbox__letters, rfl, ?_⟩
    refine ⟨_, _, rfl, .inl (SqL.of (s13 _ _ b.lst)), by show 1 ≤ sizeLine; decide, fun p4 n4 => ?_⟩
    have s4 : Same H3 (upd H3 p4 (.lst [.int (((ts.map V.ref).length : Nat) : Int)])) := same_new n4
    refine ⟨_, _, _, _, rfl, rfl, s4 _ _ h3, upd_same, by rw [vN_len]; have := withKey_len (boxKeys tags Gk ws) ws.length (make tags Gk (ansOf tags Gs ws i j)); exact sz_le (by show _ + 1 ≤ _; omega), fun p5 n5 => ?_⟩
    have s5 := s13.trans s4
    refine q p5 _ (s5.trans (same_new n5)) (s5.free n5) ?_
    rw [upd_same, vN_app, List.length_map, b.len]
    rfl
end
end Law
end

section
set_option Elab.async false
set_option linter.all false
set_option maxRecDepth 100000
/-! Qmore: rules with the written part named, for turned lists and the truth of a list. -/
namespace QN
open PySem PySem.Spec PyProof.Rows L2
section
variable {X : Cx} (K : PySem.W.Frag)
theorem pe_turn {e : Expr} {te : TE} {k : Nat} {p1 p2 p3 pos : Pos} (he : PE X e te) (h : X.K = K := by rfl) : PE X (.Subscript e (.Slice none none (some (.UnaryOp .USub (.Constant (.int 1) k p1) p2)) p3) pos) (tRevL K te) := h ▸ pe_revL he
def tTru (K : PySem.W.Frag) (ta : TE) : TT := fun σ H Q => ta σ H fun x H' => ∃ k, TruV K x H' k ∧ Q k H'
theorem pt_tru {a : Expr} {ta : TE} (ha : PE X a ta) (h : X.K = K := by rfl) (he : ∀ whole, isTrue a X.env whole = (do let v ← whole; standAt a.pos; holding [v] (truthy v)) := by intro _; rfl) : PT X a (tTru K ta) := h ▸ pt_truth ha he
theorem sl_tupK (h : X.K = K := by rfl) : SlR X (rSlT K) := h ▸ sl_tup
end
end QN
namespace QB
open PySem PySem.Spec PyProof.Rows L2
theorem enc_nat : Enc (fun n : Nat => PyData.int (n : Int)) (fun _ => True) 0 := ⟨fun x y => by
  have e := enc_int.eq (x : Int) (y : Int)
  rw [e]
  by_cases h : x = y
  · subst h
    simp
  · rw [decide_eq_false h, decide_eq_false (by omega)], fun x _ => enc_int.lay (x : Int) trivial, fun x => enc_int.dep (x : Int)⟩
def dNats (row : List Nat) : PyData := .list (row.map fun n : Nat => PyData.int (n : Int))
theorem enc_nats : Enc dNats (fun l => ∀ x ∈ l, True) 1 := enc_nat.list
theorem dp_nats {K : PySem.W.Frag} {H : Hp} {a : Addr} {row : List Nat} (h : H a = some (.lst (row.map fun (n : Nat) => V.int (n : Int)))) : Dp K H (.ref a) (dNats row) := .lst (SqL.of h) (dpAll_map _ _ (fun x => .int _) row)
end QB
end

section
set_option Elab.async false
set_option linter.all false
set_option maxRecDepth 100000
set_option maxHeartbeats 4000000
namespace Law
open PySem PySem.Spec PyProof.Rows L2 LamX QB QM
section
variable {P : Program} {w : World} {K : PySem.W.Frag} {mg : Str → Option Value} {base : Heap}
def spInitM (CE CM : Addr) : Sp := fun vs H Q _ => ∃ (x dx p0 ke : Addr) (es : List Addr) (tags : Word) (Gs : List Form) (Gk : Form), vs = [.ref x, .ref p0, .ref ke] ∧ H x = some (.ins CM dx []) ∧ ProgsAt CE H p0 es tags Gs ∧ EatAt CE H ke tags Gk ∧ OkWord tags ∧ 1 ≤ Gs.length ∧ Gs.length ≤ 6 ∧
  ∀ pl ll H', Exc [x] H H' → H pl = none → H ll = none → pl ≠ ll → H' x = some (.ins CM dx (boxFs pl ke ll)) → H' pl = some (.lst (es.map V.ref)) → H' ll = some (.lst []) → Q .non H'
theorem ok_Mailbox___init__ (X : TX K mg) : FnOk P w K mg base CX0 4 X.d_Mailbox___init__.a X.d_Mailbox___init__.fd ["self", "programs", "key"] (spInitM X.c_Eater X.c_Mailbox) := by
  have nd := sc_Mailbox___init__.nd
  refine X.d_Mailbox___init__.F.ok sc_Mailbox___init__ (fun vs H Q E h => ?_) (fun cdv A outer s H vs Q E hr h => ?_)
  · obtain ⟨x, dx, p0, ke, es, tags, Gs, Gk, rfl, _⟩ := h
    rfl
  · obtain ⟨x, dx, p0, ke, es, tags, Gs, Gk, rfl, hx, hp, hk, okw, h1, h6, q⟩ := h
    refine ⟨_, (pss_cons (ps_expr (pe_call (ok_check_programs X) (hr.mono (by decide)) rfl X.d_check_programs.mg X.d_check_programs.F.kp X.d_check_programs.b .nil pass0 (pa_cons (pv 1) pa_nil))) (pss_cons (ps_expr (pe_call (ok_check_same_tags X) (hr.mono (by decide)) rfl X.d_check_same_tags.mg X.d_check_same_tags.F.kp X.d_check_same_tags.b .nil pass0 (pa_cons (pe_ix (QB.ix_listK K) (pv 1) pe_int (fun _ _ => rfl)) (pa_cons (pv 2) pa_nil)))) (pss_cons (ps_fld (pv 0) (pe_callTy (QB.call_listK K) (by rfl) X.n_list QB.bo_list (pa_cons (pv 1) pa_nil)) rfl) (pss_cons (ps_fld (pv 0) (pv 2) rfl) (pss_one (ps_fld (pv 0) (pe_lst pa_nil) rfl)))))), ?_⟩
    try dsimp only [Cx.nox, Cx.wish, cxOf]
    refine ⟨_, rfl, p0, es, tags, Gs, rfl, hp, okw, h1, h6, fun H1 s1 => ?_⟩
    obtain ⟨e0, he0, hE0⟩ := (hp.same s1).get (k := 0) (by omega)
    refine ⟨_, rfl, _, _, _, _, rfl, rfl, SqL.of (hp.same s1).lst, atI_nat (j := 0) (by rw [List.getElem?_map, he0]; rfl), ?_⟩
    refine ⟨_, rfl, e0, ke, tags, _, Gk, rfl, hE0, hk.same s1, okw, fun H2 s2 => ?_⟩
    have s12 := s1.trans s2
    refine ⟨_, rfl, ?_⟩
    dsimp only [tNil]
    refine ⟨_, _, rfl, .inl (SqL.of (hp.same s12).lst), fun pl npl => ?_⟩
    have s3 : Same H2 (upd H2 pl (.lst (es.map V.ref))) := same_new npl
    have s13 := s12.trans s3
    have hpl : (upd H2 pl (.lst (es.map V.ref))) pl = some (.lst (es.map V.ref)) := upd_same
    have hx3 := s13 _ _ hx
    have n1 := s12.free npl
    generalize upd H2 pl (.lst (es.map V.ref)) = H3 at s3 s13 hpl hx3 ⊢
    have pl_x : pl ≠ x := (ne_of_none hx n1).symm
    refine ⟨_, rfl, x, _, _, _, rfl, hx3, X.cl_Mailbox, X.na_Mailbox__programs, by decide, ?_⟩
    refine ⟨_, rfl, ?_⟩
    refine ⟨_, rfl, x, _, _, _, rfl, upd_same, X.cl_Mailbox, X.na_Mailbox__key, by show (1 : Nat) < 1000; omega, ?_⟩
    refine ⟨by show 0 ≤ sizeLine; decide, fun ll nll => ?_⟩
    have ll_x : ll ≠ x := fun z => by
      subst z
      rw [upd_same] at nll
      cases nll
    have nll3 : H3 ll = none := by
      rw [upd_ne ll_x, upd_ne ll_x] at nll
      exact nll
    have hpl_ll : pl ≠ ll := fun z => by
      rw [z, nll3] at hpl
      cases hpl
    refine ⟨_, rfl, x, _, _, _, rfl, (upd_ne (Ne.symm ll_x)).trans upd_same, X.cl_Mailbox, X.na_Mailbox__letters, by show (2 : Nat) < 1000; omega, ?_⟩
    refine q pl ll _ (fun a o n h => ?_) n1 (s13.free nll3) hpl_ll upd_same ?_ ?_
    · have ax : a ≠ x := by simpa using n
      have ha3 := s13 _ _ h
      have a_ll : a ≠ ll := fun z => by
        rw [z, nll3] at ha3
        cases ha3
      rw [upd_ne ax, upd_ne a_ll, upd_ne ax, upd_ne ax]
      exact ha3
    · rw [upd_ne pl_x, upd_ne hpl_ll, upd_ne pl_x, upd_ne pl_x]
      exact hpl
    · rw [upd_ne ll_x, upd_same]
theorem paired_drop {α β : Type} {R : α → β → Prop} : ∀ {l : List α} {k : List β}, Paired R l k → Paired R l.dropLast k.dropLast
  | _, _, .nil => .nil
  | _, _, .cons h .nil => .nil
  | _, _, .cons h (.cons h2 r) => .cons h (paired_drop (.cons h2 r))
theorem valV_seen {A : Word → Addr} {k : Word} : ∀ l : List Word, valV (l.map fun k => (keyT k, V.ref (A k))) (keyT k) = if k ∈ l then some (V.ref (A k)) else none
  | [] => rfl
  | x :: l => by
    have ih := valV_seen (A := A) (k := k) l
    by_cases e : x = k
    · subst e
      rw [if_pos List.mem_cons_self]
      unfold valV
      rw [List.map_cons, List.find?_cons, decide_eq_true rfl]
      rfl
    · have hk : ¬ keyT x = keyT k := fun z => e (keyT_inj z)
      have h2 : (k ∈ x :: l) = (k ∈ l) := by
        apply propext
        rw [List.mem_cons]
        exact ⟨fun z => z.resolve_left fun y => e y.symm, .inr⟩
      rw [show (if k ∈ x :: l then some (V.ref (A k)) else none) = (if k ∈ l then some (V.ref (A k)) else none) from by simp only [h2], ← ih]
      unfold valV
      rw [List.map_cons, List.find?_cons, decide_eq_false hk]
theorem putK_seen {A : Word → Addr} {k : Word} {v : V} {l : List Word} (h : ¬ k ∈ l) : putK (l.map fun k => (keyT k, V.ref (A k))) (keyT k) v = (l.map fun k => (keyT k, V.ref (A k))) ++ [(keyT k, v)] := by
  unfold putK
  rw [if_neg]
  intro z
  rw [List.any_eq_true] at z
  obtain ⟨p, hp, e⟩ := z
  obtain ⟨k2, hk, rfl⟩ := List.mem_map.mp hp
  exact h (keyT_inj (of_decide_eq_true e) ▸ hk)
end
end Law
end

section
set_option Elab.async false
set_option linter.all false
set_option maxRecDepth 100000
set_option maxHeartbeats 4000000
namespace Law
open PySem PySem.Spec PyProof.Rows L2 LamX QB QM
/-- one key more -/
theorem Grp.more {H0 H H' : Hp} {D : List Addr} {A : Word → Addr} {ks : List Word} {f : Word → List Nat} {q : Addr} {w : Word} (g : Grp H0 H D A ks f) (h : ¬ w ∈ ks)
    (x : Exc D H H') (nq : H q = none) (n0 : H0 q = none) (qD : q ∉ D) (hq : H' q = some (.lst (vN (f w)))) : Grp H0 H' D (fun k => if k = w then q else A k) (ks ++ [w]) f := by
  have old : ∀ {k}, k ∈ ks → (if k = w then q else A k) = A k := fun {k} hk => if_neg fun (z : k = w) => h (by rw [← z]; exact hk)
  have ne : ∀ {k}, k ∈ ks → A k ≠ q := fun {k} hk z => by
    have := g.at_ k hk
    rw [z, nq] at this
    cases this
  refine ⟨fun k hk => ?_, fun k hk k' hk' e => ?_, fun k hk => ?_, fun k hk => ?_⟩
  · show H' (if k = w then q else A k) = _
    rcases List.mem_append.mp hk with hk | hk
    · rw [old hk]
      exact x _ _ (g.out k hk) (g.at_ k hk)
    · rw [List.mem_singleton.mp hk, if_pos rfl]
      exact hq
  · have e : (if k = w then q else A k) = (if k' = w then q else A k') := e
    rcases List.mem_append.mp hk with hk | hk <;> rcases List.mem_append.mp hk' with hk' | hk'
    · rw [old hk, old hk'] at e
      exact g.inj _ hk _ hk' e
    · rw [old hk, List.mem_singleton.mp hk', if_pos rfl] at e
      exact absurd e (ne hk)
    · rw [old hk', List.mem_singleton.mp hk, if_pos rfl] at e
      exact absurd e.symm (ne hk')
    · rw [List.mem_singleton.mp hk, List.mem_singleton.mp hk']
  · show H0 (if k = w then q else A k) = none
    rcases List.mem_append.mp hk with hk | hk
    · rw [old hk]
      exact g.new k hk
    · rw [List.mem_singleton.mp hk, if_pos rfl]
      exact n0
  · show (if k = w then q else A k) ∉ D
    rcases List.mem_append.mp hk with hk | hk
    · rw [old hk]
      exact g.out k hk
    · rw [List.mem_singleton.mp hk, if_pos rfl]
      exact qD
/-- one number more at a key -/
theorem Grp.put {H0 H : Hp} {D : List Addr} {A : Word → Addr} {ks : List Word} {f f' : Word → List Nat} {w : Word} {n : Nat} (g : Grp H0 H D A ks f) (h : w ∈ ks) (e1 : f' w = f w ++ [n]) (e2 : ∀ k, k ≠ w → f' k = f k) :
    Grp H0 (upd H (A w) (.lst (vN (f w) ++ [V.int (n : Int)]))) D A ks f' := by
  refine ⟨fun k hk => ?_, g.inj, g.new, g.out⟩
  by_cases e : k = w
  · rw [e, upd_same, e1, vN_app]
    rfl
  · rw [upd_ne fun z => e (g.inj _ hk _ h z), e2 k e]
    exact g.at_ k hk
theorem Grp.re {H0 H : Hp} {D D' : List Addr} {A : Word → Addr} {ks : List Word} {f : Word → List Nat} (g : Grp H0 H D A ks f) (h : ∀ k ∈ ks, A k ∉ D') : Grp H0 H D' A ks f := ⟨g.at_, g.inj, g.new, h⟩
theorem Grp.mono {H0 H1 H : Hp} {D : List Addr} {A : Word → Addr} {ks : List Word} {f : Word → List Nat} (g : Grp H1 H D A ks f) (s : Same H0 H1) : Grp H0 H D A ks f := ⟨g.at_, g.inj, fun k h => s.free (g.new k h), g.out⟩
section
variable {P : Program} {w : World} {K : PySem.W.Frag} {mg : Str → Option Value} {base : Heap}
def spTalks (CE CM : Addr) : Sp := fun vs H Q _ => ∃ (M : List Addr) (m ll : Addr) (tags : Word) (Gs : List Form) (Gk : Form) (ws : List Word), vs = [.ref m] ∧ BoxAt CE CM M H m ll tags Gs Gk ws ∧ BoxOk tags Gs Gk ∧ WsOk tags 1000 ws ∧ ws.length ≤ 1000 ∧
  ∀ r H', Same H H' → TalksAt H H' r (boxKeys tags Gk ws) ws.length → Q (.ref r) H'
theorem ok_Mailbox_talks (X : TX K mg) : FnOk P w K mg base CX0 1 X.d_Mailbox_talks.a X.d_Mailbox_talks.fd ["self"] (spTalks X.c_Eater X.c_Mailbox) := by
  have nd := sc_Mailbox_talks.nd
  refine X.d_Mailbox_talks.F.ok sc_Mailbox_talks (fun vs H Q E h => ?_) (fun cdv A outer s H vs Q E hr h => ?_)
  · obtain ⟨M, m, ll, tags, Gs, Gk, ws, rfl, _⟩ := h
    rfl
  · obtain ⟨M, m, ll, tags, Gs, Gk, ws, rfl, ⟨dx, pl, ke, es, ts, b⟩, ok, wo, hl, q⟩ := h
    refine ⟨_, (pss_cons (ps_set (i := 1) nd rfl (Or.inl rfl) pe_dnewT) (pss_cons (ps_for PassesOwn.never rfl (QB.pi_enumK K (by rfl) X.n_enumerate (pa_cons (QB.pe_fldK K (pv 0) rfl) pa_nil)) (pg_tup (by rfl) (pgs_cons (pg_name (i := 2) nd rfl (Or.inl rfl)) (pgs_cons (pg_tup (by rfl) (pgs_cons (pg_name (i := 3) nd rfl (Or.inl rfl)) (pgs_cons (pg_name (i := 4) nd rfl (Or.inl rfl)) (pgs_nil)))) (pgs_nil)))) (pss_one (ps_expr (QB.pe_bmK K PySem.F.plainAttrs_list PySem.F.slot_list_append PySem.F.type_list_append mt_append (QB.pe_bmK K PySem.F.plainAttrs_dict PySem.F.slot_dict_setdefault PySem.F.type_dict_setdefault (QM2.mt_setdT (hu64 hr)) (pv 1) (pa_cons (pe_callTy (QB.call_tupleK K) (by rfl) X.n_tuple QB.bo_tuple (pa_cons (pv 4) pa_nil)) (pa_cons (pe_lst pa_nil) pa_nil))) (pa_cons (pv 2) pa_nil))))) (pss_one (ps_ret (pe_callTy (QM2.call_listVT (by rfl)) (by rfl) X.n_list QB.bo_list (pa_cons (QB.pe_bm0K K PySem.F.plainAttrs_dict PySem.F.slot_dict_values PySem.F.type_dict_values QM2.mt_valuesT (pv 1)) pa_nil)))))), ?_⟩
    try dsimp only [Cx.nox, Cx.wish, cxOf]
    refine fun D hD => ?_
    have s0 : Same H (upd H D (.dT [])) := same_new hD
    have ho := hide_sub _ _ b.obj
    refine ⟨_, rfl, m, _, _, _, _, rfl, s0 _ _ ho, X.cl_Mailbox, X.na_Mailbox__letters, rfl, ?_⟩
    refine ⟨_, _, rfl, SqL.of (s0 _ _ b.lst), ?_⟩
    obtain ⟨kk, hkk⟩ : ∃ kk, kk = boxKeys tags Gk ws := ⟨_, rfl⟩
    rw [← hkk] at q
    refine for_it (walk_enum (K := K) (a := ll) (xs := ts.map V.ref)) (fun i σ H' => ∃ (v2 v3 v4 : Option V) (A : Word → Addr), σ = [some (.ref m), some (.ref D), v2, v3, v4] ∧ Same H H' ∧ H' D = some (.dT ((seenTo kk i).map fun k => (keyT k, V.ref (A k)))) ∧ Grp H H' [D] A (seenTo kk i) (withKey kk i))
      ⟨none, none, none, fun _ => 0, rfl, s0, upd_same, Grp.nil⟩ (fun i σ H' _ ⟨_, _, _, _, _, s1, _⟩ => SqL.of (s1 _ _ b.lst)) ?_ ?_
    · rintro i v σ H2 H3 hi ⟨v2, v3, v4, A, rfl, s2, hD2, g2⟩ ⟨tp, x1, x2, rfl, ntp, rfl, e1, e2⟩
      cases e1
      rw [List.length_map, b.len] at hi
      obtain ⟨t, x, y, h1, h2, h3, h4⟩ := (b.same s2).get hi
      have e2 : (ts.map V.ref)[i]? = some x2 := e2
      rw [List.getElem?_map, h1] at e2
      cases e2
      have s3 : Same H2 (upd H2 tp (.tup [.int (i : Int), .ref t])) := same_new ntp
      have htp : (upd H2 tp (.tup [.int (i : Int), .ref t])) tp = some (.tup [.int (i : Int), .ref t]) := upd_same
      generalize upd H2 tp (.tup [.int (i : Int), .ref t]) = H3 at s3 htp ⊢
      have ekw : kk.getD i [] = make tags Gk (ws[i]) := hkk ▸ boxKeys_get hi
      obtain ⟨kw, hkw⟩ : ∃ kw, kw = kk.getD i [] := ⟨_, rfl⟩
      rw [← ekw, ← hkw] at h4
      refine ⟨tp, _, rfl, SqT.of htp, rfl, _, _, rfl, _, _, rfl, ⟨t, _, rfl, SqT.of (s3 _ _ h2), rfl, _, _, rfl, _, _, rfl, rfl, rfl, ?_⟩⟩
      have hD3 := s3 _ _ hD2
      refine ⟨_, rfl, .inr (.inr (.inl ⟨rfl, .inr ⟨_, hD3⟩⟩)), ?_⟩
      refine ⟨_, rfl, y, _, rfl, .inl ⟨SqL.of (Same.word s3 h4), fun p np => ?_⟩⟩
      have s4 : Same H3 (upd H3 p (.tup (vS kw))) := same_new np
      have hp4 : (upd H3 p (.tup (vS kw))) p = some (.tup ((keyT kw).map kV)) := by rw [upd_same, keyT_v]
      generalize upd H3 p (.tup (vS kw)) = H4 at s4 hp4 ⊢
      refine ⟨by show 0 ≤ sizeLine; decide, fun e ne => ?_⟩
      have s5 : Same H4 (upd H4 e (.lst [])) := same_new ne
      have he5 : (upd H4 e (.lst [])) e = some (.lst []) := upd_same
      have s24 := s3.trans s4
      have g4 := g2.same s24
      have hD4 := s24 _ _ hD2
      have e_D : e ≠ D := (ne_of_none hD4 ne).symm
      have n0 : H e = none := (s2.trans s24).free ne
      have s04 := s2.trans s24
      generalize hH5 : upd H4 e (.lst []) = H5 at s5 he5 ⊢
      have hD5 := s5 _ _ hD4
      have lenk : (seenTo kk i).length ≤ 1000 := Nat.le_trans (seenTo_len kk i) (by omega)
      refine ⟨D, _, keyT kw, p, .ref e, rfl, rfl, hD5, s5 _ _ hp4, by rw [List.length_map]; exact sz_lt (by omega), fun u hu => ?_, fun hn => ?_⟩
      · rw [valV_seen] at hu
        by_cases hm : kw ∈ seenTo kk i
        · rw [if_pos hm] at hu
          cases hu
          have hA := (g4.same s5).at_ kw hm
          refine ⟨.inl ⟨rfl, _, SqL.of hA⟩, ?_⟩
          refine ⟨_, rfl, A kw, _, _, rfl, rfl, hA, by rw [vN_len]; have := withKey_len kk i kw; exact sz_lt (by omega), ?_⟩
          have hm' : kk.getD i [] ∈ seenTo kk i := hkw ▸ hm
          refine ⟨_, _, _, A, rfl, Same.mut (s04.trans s5) (g2.new kw hm), ?_, ?_⟩
          · rw [seenTo_in hm', upd_ne fun (z : D = A kw) => g2.out kw hm (by rw [z]; exact List.mem_cons_self)]
            exact hD5
          · rw [seenTo_in hm']
            exact (g4.same s5).put hm (by rw [hkw, withKey_same]) fun k hk => withKey_other (hkw ▸ hk)
        · rw [if_neg hm] at hu
          cases hu
      · rw [valV_seen] at hn
        by_cases hm : kw ∈ seenTo kk i
        · rw [if_pos hm] at hn
          cases hn
        · have hm' : ¬ kk.getD i [] ∈ seenTo kk i := hkw ▸ hm
          rw [putK_seen hm]
          have he6 : (upd H5 D (.dT ((seenTo kk i).map (fun k => (keyT k, V.ref (A k))) ++ [(keyT kw, V.ref e)]))) e = some (.lst []) := (upd_ne e_D).trans he5
          refine ⟨.inl ⟨rfl, _, SqL.of he6⟩, ?_⟩
          refine ⟨_, rfl, e, _, _, rfl, rfl, he6, by show 0 < sizeLine; decide, ?_⟩
          have g7 : Grp H (upd H5 D (.dT ((seenTo kk i).map (fun k => (keyT k, V.ref (A k))) ++ [(keyT kw, V.ref e)]))) [D] (fun k => if k = kw then e else A k) (seenTo kk i ++ [kw]) (withKey kk i) :=
            g4.more hm ((Exc.of s5).mut (.inl List.mem_cons_self)) ne n0 (by simpa using e_D) (by rw [show withKey kk i kw = [] from by rw [hkw]; exact withKey_none hm']; exact he6)
          have g8 := g7.put (w := kw) (n := i) (f' := withKey kk (i + 1)) (List.mem_append.mpr (.inr (List.mem_singleton.mpr rfl))) (by rw [hkw, withKey_same]) fun k hk => withKey_other (hkw ▸ hk)
          rw [show (if kw = kw then e else A kw) = e from if_pos rfl, show withKey kk i kw = [] from by rw [hkw]; exact withKey_none hm'] at g8
          have es : seenTo kk (i + 1) = seenTo kk i ++ [kw] := by rw [hkw]; exact seenTo_out hm'
          refine ⟨_, _, _, fun k => if k = kw then e else A k, rfl, Same.mut (Same.mut (s04.trans s5) hD) n0, ?_, ?_⟩
          · rw [es, upd_ne e_D.symm, upd_same, List.map_append]
            congr 3
            · refine List.map_congr_left fun k hk => ?_
              show (keyT k, V.ref (A k)) = (keyT k, V.ref (if k = kw then e else A k))
              rw [if_neg fun (z : k = kw) => hm (by rw [← z]; exact hk)]
            · show _ = [(keyT kw, V.ref (if kw = kw then e else A kw))]
              rw [if_pos rfl]
          · rw [es]
            exact g8
    · rintro σ H2 ⟨v2, v3, v4, A, rfl, s2, hD2, g2⟩
      rw [List.length_map, b.len] at hD2 g2
      refine ⟨_, rfl, .inr (.inr (.inl ⟨rfl, .inr ⟨_, hD2⟩⟩)), D, _, rfl, rfl, hD2, fun p np => ?_⟩
      have s3 : Same H2 (upd H2 p (QM2.valuesO p D)) := same_new np
      refine ⟨p, D, _, rfl, upd_same, s3 _ _ hD2, fun r nr => ?_⟩
      have s4 : Same (upd H2 p (QM2.valuesO p D)) (upd (upd H2 p (QM2.valuesO p D)) r (.lst (((seenTo kk ws.length).map fun k => (keyT k, V.ref (A k))).map (·.2)))) := same_new nr
      have s34 := s3.trans s4
      refine q r _ (s2.trans s34) ⟨(s2.trans s3).free nr, A, ?_, (g2.same s34).re fun k hk z => ?_⟩
      · rw [upd_same, List.map_map]
        rfl
      · have := s3 _ _ (g2.at_ k hk)
        rw [List.mem_singleton.mp z, nr] at this
        cases this
end
end Law
end

section
set_option Elab.async false
set_option linter.all false
set_option maxRecDepth 100000
set_option maxHeartbeats 4000000
namespace Law
open PySem PySem.Spec PyProof.Rows L2 LamX QB QM QV
section
variable {P : Program} {w : World} {K : PySem.W.Frag} {mg : Str → Option Value} {base : Heap}
theorem ok_InvalidTags___init__ (X : TX K mg) : FnOk P w K mg base CX0 1 X.d_InvalidTags___init__.a X.d_InvalidTags___init__.fd ["self", "index"] (QX.spExI K X.e_InvalidTags "index") := by
  have nd := sc_InvalidTags___init__.nd
  refine X.d_InvalidTags___init__.F.ok sc_InvalidTags___init__ (fun vs H Q E h => ?_) (fun cdv A outer s H vs Q E hr h => ?_)
  · obtain ⟨a, y, rfl, _⟩ := h
    rfl
  · obtain ⟨a, y, rfl, ha, k⟩ := h
    refine ⟨_, (pss_one (ps_ost (pv 0) (pv 1))), ?_⟩
    try dsimp only [Cx.nox, Cx.wish, cxOf]
    exact ⟨_, rfl, _, rfl, a, X.e_InvalidTags, rfl, X.xt_InvalidTags.oex, X.xt_InvalidTags.noF, .inl ⟨ha, fun dx h1 h2 => k dx h1 h2⟩⟩
theorem ok_InvalidSubject___init__ (X : TX K mg) : FnOk P w K mg base CX0 1 X.d_InvalidSubject___init__.a X.d_InvalidSubject___init__.fd ["self", "index"] (QX.spExI K X.e_InvalidSubject "index") := by
  have nd := sc_InvalidSubject___init__.nd
  refine X.d_InvalidSubject___init__.F.ok sc_InvalidSubject___init__ (fun vs H Q E h => ?_) (fun cdv A outer s H vs Q E hr h => ?_)
  · obtain ⟨a, y, rfl, _⟩ := h
    rfl
  · obtain ⟨a, y, rfl, ha, k⟩ := h
    refine ⟨_, (pss_one (ps_ost (pv 0) (pv 1))), ?_⟩
    try dsimp only [Cx.nox, Cx.wish, cxOf]
    exact ⟨_, rfl, _, rfl, a, X.e_InvalidSubject, rfl, X.xt_InvalidSubject.oex, X.xt_InvalidSubject.noF, .inl ⟨ha, fun dx h1 h2 => k dx h1 h2⟩⟩
theorem ok_InvalidEater___init__ (X : TX K mg) : FnOk P w K mg base CX0 1 X.d_InvalidEater___init__.a X.d_InvalidEater___init__.fd ["self", "index"] (QX.spExI K X.e_InvalidEater "index") := by
  have nd := sc_InvalidEater___init__.nd
  refine X.d_InvalidEater___init__.F.ok sc_InvalidEater___init__ (fun vs H Q E h => ?_) (fun cdv A outer s H vs Q E hr h => ?_)
  · obtain ⟨a, y, rfl, _⟩ := h
    rfl
  · obtain ⟨a, y, rfl, ha, k⟩ := h
    refine ⟨_, (pss_one (ps_ost (pv 0) (pv 1))), ?_⟩
    try dsimp only [Cx.nox, Cx.wish, cxOf]
    exact ⟨_, rfl, _, rfl, a, X.e_InvalidEater, rfl, X.xt_InvalidEater.oex, X.xt_InvalidEater.noF, .inl ⟨ha, fun dx h1 h2 => k dx h1 h2⟩⟩
theorem ok_InvalidNumber___init__ (X : TX K mg) : FnOk P w K mg base CX0 1 X.d_InvalidNumber___init__.a X.d_InvalidNumber___init__.fd ["self", "number"] (QX.spExI K X.e_InvalidNumber "number") := by
  have nd := sc_InvalidNumber___init__.nd
  refine X.d_InvalidNumber___init__.F.ok sc_InvalidNumber___init__ (fun vs H Q E h => ?_) (fun cdv A outer s H vs Q E hr h => ?_)
  · obtain ⟨a, y, rfl, _⟩ := h
    rfl
  · obtain ⟨a, y, rfl, ha, k⟩ := h
    refine ⟨_, (pss_one (ps_ost (pv 0) (pv 1))), ?_⟩
    try dsimp only [Cx.nox, Cx.wish, cxOf]
    exact ⟨_, rfl, _, rfl, a, X.e_InvalidNumber, rfl, X.xt_InvalidNumber.oex, X.xt_InvalidNumber.noF, .inl ⟨ha, fun dx h1 h2 => k dx h1 h2⟩⟩
theorem ok_InvalidPrograms___init__ (X : TX K mg) : FnOk P w K mg base CX0 1 X.d_InvalidPrograms___init__.a X.d_InvalidPrograms___init__.fd ["self", "index"] (QX.spExI K X.e_InvalidPrograms "index") := by
  have nd := sc_InvalidPrograms___init__.nd
  refine X.d_InvalidPrograms___init__.F.ok sc_InvalidPrograms___init__ (fun vs H Q E h => ?_) (fun cdv A outer s H vs Q E hr h => ?_)
  · obtain ⟨a, y, rfl, _⟩ := h
    rfl
  · obtain ⟨a, y, rfl, ha, k⟩ := h
    refine ⟨_, (pss_one (ps_ost (pv 0) (pv 1))), ?_⟩
    try dsimp only [Cx.nox, Cx.wish, cxOf]
    exact ⟨_, rfl, _, rfl, a, X.e_InvalidPrograms, rfl, X.xt_InvalidPrograms.oex, X.xt_InvalidPrograms.noF, .inl ⟨ha, fun dx h1 h2 => k dx h1 h2⟩⟩
theorem ok_InvalidStarts___init__ (X : TX K mg) : FnOk P w K mg base CX0 1 X.d_InvalidStarts___init__.a X.d_InvalidStarts___init__.fd ["self", "index"] (QX.spExI K X.e_InvalidStarts "index") := by
  have nd := sc_InvalidStarts___init__.nd
  refine X.d_InvalidStarts___init__.F.ok sc_InvalidStarts___init__ (fun vs H Q E h => ?_) (fun cdv A outer s H vs Q E hr h => ?_)
  · obtain ⟨a, y, rfl, _⟩ := h
    rfl
  · obtain ⟨a, y, rfl, ha, k⟩ := h
    refine ⟨_, (pss_one (ps_ost (pv 0) (pv 1))), ?_⟩
    try dsimp only [Cx.nox, Cx.wish, cxOf]
    exact ⟨_, rfl, _, rfl, a, X.e_InvalidStarts, rfl, X.xt_InvalidStarts.oex, X.xt_InvalidStarts.noF, .inl ⟨ha, fun dx h1 h2 => k dx h1 h2⟩⟩
theorem ok_TooMany___init__ (X : TX K mg) : FnOk P w K mg base CX0 1 X.d_TooMany___init__.a X.d_TooMany___init__.fd ["self", "limit"] (QX.spExI K X.e_TooMany "limit") := by
  have nd := sc_TooMany___init__.nd
  refine X.d_TooMany___init__.F.ok sc_TooMany___init__ (fun vs H Q E h => ?_) (fun cdv A outer s H vs Q E hr h => ?_)
  · obtain ⟨a, y, rfl, _⟩ := h
    rfl
  · obtain ⟨a, y, rfl, ha, k⟩ := h
    refine ⟨_, (pss_one (ps_ost (pv 0) (pv 1))), ?_⟩
    try dsimp only [Cx.nox, Cx.wish, cxOf]
    exact ⟨_, rfl, _, rfl, a, X.e_TooMany, rfl, X.xt_TooMany.oex, X.xt_TooMany.noF, .inl ⟨ha, fun dx h1 h2 => k dx h1 h2⟩⟩
end
/-! how heavy a list is -/
theorem all_len : ∀ ds : List PyData, ds.length ≤ PyData.weightAll ds
  | [] => Nat.zero_le _
  | d :: ds => by
    rw [List.length_cons, PyData.weightAll]
    have := all_len ds
    omega
theorem all_mem : ∀ {ds : List PyData} {d : PyData}, d ∈ ds → d.weight + 1 ≤ PyData.weightAll ds
  | e :: ds, d, h => by
    rw [PyData.weightAll]
    rcases List.mem_cons.mp h with rfl | h
    · omega
    · have := all_mem h
      omega
theorem w_list (ds : List PyData) : (PyData.list ds).weight = PyData.weightAll ds := by rw [PyData.weight]
theorem w_tuple (ds : List PyData) : (PyData.tuple ds).weight = PyData.weightAll ds := by rw [PyData.weight]
theorem w_str (t : Str) : (PyData.str t).weight = t.length := by
  rw [PyData.weight]
  rfl
/-! what the checks tell of data -/
def nameB (t : Str) : Bool := decide (1 ≤ t.length) && (decide (t.length ≤ 8) && t.cps.toList.all fun c => decide (c ∈ letters.cps.toList))
def nameD : PyData → Bool
  | .str t => nameB t
  | _ => false
def tagD (tags : List Str) : PyData → Bool
  | .str t => decide (t ∈ tags)
  | _ => false
def numD (lo hi : Int) : PyData → Bool
  | .int i => decide (lo ≤ i ∧ i ≤ hi)
  | _ => false
def listD (lo hi : Int) : PyData → Bool
  | .list ds => decide (lo ≤ (ds.length : Int) ∧ (ds.length : Int) ≤ hi)
  | _ => false
def subjD (tags : List Str) : PyData → Bool
  | .list ds => ds.all (tagD tags)
  | _ => false
def noneD : PyData → Bool
  | .none => true
  | _ => false
def wayD (many : Int) (d : PyData) : Bool := noneD d || numD 0 (many - 1) d
def waysD (many : Int) : PyData → Bool
  | .list ds => ds.all (wayD many)
  | _ => false
def stdD (tags : List Str) (many : Int) : PyData → Bool
  | .tuple [a, b] => listD 0 8 a && (subjD tags a && (listD (tags.length : Int) (tags.length : Int) b && waysD many b))
  | _ => false
theorem nameB_ok {t : Str} (h : NameOk t) : nameB t = true := by
  unfold nameB
  rw [decide_eq_true h.pos, decide_eq_true h.len, List.all_eq_true.mpr fun c hc => decide_eq_true (h.all c hc)]
  rfl
theorem nameB_to {t : Str} (h : nameB t = true) : NameOk t := by
  unfold nameB at h
  rw [Bool.and_eq_true, Bool.and_eq_true, List.all_eq_true] at h
  obtain ⟨h1, h2, h3⟩ := h
  exact ⟨of_decide_eq_true h1, of_decide_eq_true h2, fun c hc => of_decide_eq_true (h3 c hc)⟩
/-- the first of n places that is so -/
def firstBad (p : Nat → Bool) (n : Nat) : Option Nat := (List.range n).find? p
theorem first_at {p : Nat → Bool} {n i : Nat} (hi : i < n) (hp : p i = true) (hno : ∀ j < i, p j = false) : firstBad p n = some i := by
  unfold firstBad
  rw [List.find?_range_eq_some]
  exact ⟨hp, List.mem_range.mpr hi, fun j hj => by rw [hno j hj]; rfl⟩
theorem first_none {p : Nat → Bool} {n : Nat} (h : ∀ i < n, p i = false) : firstBad p n = none := by
  unfold firstBad
  rw [List.find?_eq_none]
  intro i hi
  rw [h i (List.mem_range.mp hi)]
  exact Bool.false_ne_true
theorem none_first {p : Nat → Bool} {n : Nat} (h : firstBad p n = none) : ∀ i < n, p i = false := by
  unfold firstBad at h
  rw [List.find?_eq_none] at h
  intro i hi
  have := h i (List.mem_range.mpr hi)
  cases q : p i with
  | false => rfl
  | true => exact absurd q this
def sameS : PyData → PyData → Bool
  | .str a, .str b => a == b
  | _, _ => false
def badTag (ds : List PyData) (i : Nat) : Bool := match ds[i]? with
  | some d => !nameD d || (ds.take i).any fun e => sameS e d
  | none => false
def idx (o : Option Nat) : Option V := o.map fun i => .int (i : Int)
def tagsDue : PyData → Option V
  | .list ds => if 1 ≤ ds.length ∧ ds.length ≤ 6 then idx (firstBad (badTag ds) ds.length) else some .non
  | _ => some .non
def badStd (tags : List Str) (ds : List PyData) (i : Nat) : Bool := match ds[i]? with
  | some d => !stdD tags (ds.length : Int) d
  | none => false
def stdsDue (tags : List Str) : PyData → Option V
  | .list ds => if 1 ≤ ds.length ∧ ds.length ≤ 30 then idx (firstBad (badStd tags ds) ds.length) else some .non
  | _ => some .non
/-- an error of the class at C with one field -/
def Bad (C : Addr) (f : Str) (iv : V) (H : Hp) (E : XK) : Prop := ∀ dd H', Same H H' → H' dd = some (.xd [(f, iv)]) → H dd = none → E (.ref C) (some dd) H'
theorem Bad.same {C : Addr} {f : Str} {iv : V} {H H' : Hp} {E : XK} (h : Bad C f iv H E) (s : Same H H') : Bad C f iv H' E := fun dd H2 s2 e n => h dd H2 (s.trans s2) e (s.free n)
theorem Bad.mk {K : PySem.W.Frag} {C : Addr} {f : Str} {iv : V} {H : Hp} {E : XK} (h : Bad C f iv H E) : ([iv] : List V).length ≤ 1000 ∧ ∀ a, H a = none → QX.spExI K C f (.ref a :: ([iv] ++ [])) (upd H a (exo a C none))
      (fun v H2 => v = .non ∧ ∃ (d : Addr) (fs : List (Str × V)), H2 a = some (exo a C (some d)) ∧ H2 d = some (exd d fs) ∧ H d = none ∧ E (.ref C) (some d) (upd (del H2 a) d (.xd fs))) (fun _ _ _ => False) :=
  QX.mkO_of fun d hd => h d _ (same_new hd) upd_same hd
theorem names_flat : ∀ {ds : List PyData} {xs : List V} {H : Hp}, DvAll H xs ds → (∀ d ∈ ds, nameD d = true) → xs.all flatV = true
  | _, _, _, .nil, _ => rfl
  | _, _, _, .cons (d := d) h1 h2, h => by
    rw [List.all_cons, names_flat h2 fun e he => h e (List.mem_cons_of_mem _ he)]
    have := h d List.mem_cons_self
    cases h1 with
    | str t => rfl
    | _ => cases this
theorem names_in : ∀ {ds : List PyData} {xs : List V} {H : Hp} (t : Str), DvAll H xs ds → (∀ d ∈ ds, nameD d = true) → inV (.str t) xs = ds.any fun e => sameS e (.str t)
  | _, _, _, _, .nil, _ => rfl
  | _, _, _, t, .cons (d := d) h1 h2, h => by
    have ih := names_in t h2 fun e he => h e (List.mem_cons_of_mem _ he)
    unfold inV at ih ⊢
    rw [List.any_cons, List.any_cons, ih]
    have := h d List.mem_cons_self
    cases h1 with
    | str u => rfl
    | _ => cases this
theorem names_before {ds : List PyData} {i : Nat} (hi : i ≤ ds.length) (h : ∀ j < i, badTag ds j = false) : ∀ d ∈ ds.take i, nameD d = true := fun d hd => by
  obtain ⟨j, hj, e⟩ := List.mem_iff_getElem.mp hd
  rw [List.length_take] at hj
  have hb := h j (by omega)
  unfold badTag at hb
  rw [List.getElem_take] at e
  rw [List.getElem?_eq_getElem (by omega), e] at hb
  dsimp only at hb
  rw [Bool.or_eq_false_iff] at hb
  simpa using hb.1
section
variable {P : Program} {w : World} {K : PySem.W.Frag} {mg : Str → Option Value} {base : Heap}
def spIsNumberD : Sp := fun vs H Q _ => ∃ (v : V) (d : PyData) (lo hi : Int), vs = [v, .int lo, .int hi] ∧ Dv H v d ∧ Q (.bl (numD lo hi d)) H
theorem oka_is_number (X : TX K mg) : FnOk P w K mg base CX0 1 X.d_is_number.a X.d_is_number.fd ["x", "least", "most"] spIsNumberD := by
  have nd := sc_is_number.nd
  refine X.d_is_number.F.ok sc_is_number (fun vs H Q E h => ?_) (fun cdv A outer s H vs Q E hr h => ?_)
  · obtain ⟨n, d, lo, hi, rfl, _⟩ := h
    rfl
  · obtain ⟨v, d, lo, hi, rfl, hd, k⟩ := h
    refine ⟨_, (pss_one (ps_ret (pe_and (pe_callB (QB.call_isiK K) (by rfl) X.n_isinstance QB.bo_isinstance (pa_cons (pv 0) (pa_cons (pe_bltn (v := .ty "int") (by rfl) X.n_int QB.bo_int rfl) pa_nil))) (pe_and (pe_not (pe_callB (QB.call_isiK K) (by rfl) X.n_isinstance QB.bo_isinstance (pa_cons (pv 0) (pa_cons (pe_bltn (v := .ty "bool") (by rfl) X.n_bool QB.bo_bool rfl) pa_nil)))) (pe_one (pe_chain op_le op_le (pv 1) (pv 0) (pv 2))))))), ?_⟩
    try dsimp only [Cx.nox, Cx.wish, cxOf]
    refine ⟨_, rfl, _, _, _, _, isID d, rfl, .ty "int", hd.ty K, kit_i d, isID d, rfl, ?_⟩
    cases hd with
    | bl b =>
      refine iteT ?_
      refine ⟨_, rfl, _, _, _, _, true, rfl, .ty "bool", (Dv.bl b).ty K, kit_b (.bool b), true, rfl, false, rfl, ?_⟩
      exact iteF k
    | int n =>
      refine iteT ?_
      refine ⟨_, rfl, _, _, _, _, false, rfl, .ty "bool", (Dv.int (H := H) n).ty K, kit_b (.int n), false, rfl, true, rfl, ?_⟩
      refine iteT ?_
      refine ⟨_, rfl, _, rfl, _, _, rfl, rfl, _, rfl, ?_⟩
      have k : Q (.bl (decide (lo ≤ n ∧ n ≤ hi))) H := k
      by_cases h1 : lo ≤ n
      · rw [if_pos (decide_eq_true h1)]
        refine ⟨_, rfl, _, _, rfl, rfl, ?_⟩
        have e : decide (lo ≤ n ∧ n ≤ hi) = decide (n ≤ hi) := by simp [h1]
        rw [e] at k
        exact k
      · rw [if_neg (by simpa using h1)]
        have e : decide (lo ≤ n ∧ n ≤ hi) = false := by simp [h1]
        rw [e] at k
        exact k
    | _ => exact iteF k
def spIsListD : Sp := fun vs H Q _ => ∃ (v : V) (d : PyData) (lo hi : Int), vs = [v, .int lo, .int hi] ∧ Dv H v d ∧ Q (.bl (listD lo hi d)) H
theorem oka_is_list (X : TX K mg) : FnOk P w K mg base CX0 1 X.d_is_list.a X.d_is_list.fd ["x", "least", "most"] spIsListD := by
  have nd := sc_is_list.nd
  refine X.d_is_list.F.ok sc_is_list (fun vs H Q E h => ?_) (fun cdv A outer s H vs Q E hr h => ?_)
  · obtain ⟨v, d, lo, hi, rfl, _⟩ := h
    rfl
  · obtain ⟨v, d, lo, hi, rfl, hd, k⟩ := h
    refine ⟨_, (pss_one (ps_ret (pe_and (pe_callB (QB.call_isiK K) (by rfl) X.n_isinstance QB.bo_isinstance (pa_cons (pv 0) (pa_cons (pe_bltn (v := .ty "list") (by rfl) X.n_list QB.bo_list rfl) pa_nil))) (pe_one (pe_chain op_le op_le (pv 1) (pe_callB (QB.call_lenK K) (by rfl) X.n_len PySem.boot_len (pa_cons (pv 0) pa_nil)) (pv 2)))))), ?_⟩
    try dsimp only [Cx.nox, Cx.wish, cxOf]
    refine ⟨_, rfl, _, _, _, _, isLD d, rfl, .ty "list", hd.ty K, kit_l d, isLD d, rfl, ?_⟩
    cases hd with
    | @lst a xs ds ha hall =>
      refine iteT ?_
      refine ⟨_, rfl, _, rfl, _, _, rfl, .inl (SqL.of ha), _, _, rfl, rfl, _, rfl, ?_⟩
      rw [← hall.len]
      have k : Q (.bl (decide (lo ≤ (ds.length : Int) ∧ (ds.length : Int) ≤ hi))) H := k
      by_cases h1 : lo ≤ (ds.length : Int)
      · rw [if_pos (decide_eq_true h1)]
        refine ⟨_, rfl, _, _, rfl, rfl, ?_⟩
        have e : decide (lo ≤ (ds.length : Int) ∧ (ds.length : Int) ≤ hi) = decide ((ds.length : Int) ≤ hi) := by simp [h1]
        rw [e] at k
        exact k
      · rw [if_neg (by simpa using h1)]
        have e : decide (lo ≤ (ds.length : Int) ∧ (ds.length : Int) ≤ hi) = false := by simp [h1]
        rw [e] at k
        exact k
    | _ => exact iteF k
def spIsNameD : Sp := fun vs H Q _ => ∃ (v : V) (d : PyData), vs = [v] ∧ Dv H v d ∧ d.weight ≤ 10000 ∧ ∀ H', Same H H' → Q (.bl (nameD d)) H'
theorem oka_is_name (X : TX K mg) : FnOk P w K mg base CX0 1 X.d_is_name.a X.d_is_name.fd ["x"] spIsNameD := by
  have nd := sc_is_name.nd
  refine X.d_is_name.F.ok sc_is_name (fun vs H Q E h => ?_) (fun cdv A outer s H vs Q E hr h => ?_)
  · obtain ⟨v, d, rfl, _⟩ := h
    rfl
  · obtain ⟨v, d, rfl, hd, hz, k⟩ := h
    refine ⟨_, (pss_cons (ps_if (PW.pt (pw_or (pt_not (pt_val (pe_callB (QB.call_isiK K) (by rfl) X.n_isinstance QB.bo_isinstance (pa_cons (pv 0) (pa_cons (pe_bltn (v := .ty "str") (by rfl) X.n_str QB.bo_str rfl) pa_nil))))) (pw_or1 (pt_not (pt_chain op_le op_le pe_int (pe_callB call_len_str (by rfl) X.n_len PySem.boot_len (pa_cons (pv 0) pa_nil)) (pe_gc rfl X.c_MOST_LETTERS)))))) (pss_one (ps_ret pe_bl)) pss_nil) (pss_one (ps_ret (pe_callB (QB.cr_allK K rfl) (by rfl) X.n_all QB.bo_all (pa_cons (pe_lc (own := [("letter", 1)]) (g := gName 1) (tt := tYes) rfl nd (pi_str (pv 0)) (blkOk_by (N := ["x", "letter"]) (sc := defScope s_is_name) (by decide +kernel)) (fun _ _ _ _ _ => pg_name (i := 1) nd rfl (Or.inl rfl)) (fun _ _ _ _ _ => pts_nil) (fun _ _ _ _ _ => (pe_cmpR op_in_sign (pv 1) (pe_gc rfl X.c_LETTERS) rfl))) pa_nil))))), ?_⟩
    try dsimp only [Cx.nox, Cx.wish, cxOf]
    refine ⟨_, rfl, _, _, _, _, isSD d, rfl, .ty "str", hd.ty K, kit_s d, isSD d, rfl, ?_⟩
    cases hd with
    | str t =>
      refine iteF ?_
      rw [w_str] at hz
      have k : ∀ H', Same H H' → Q (.bl (nameB t)) H' := k
      unfold nameB at k
      refine ⟨_, rfl, t, rfl, sz_le (by omega), _, _, rfl, rfl, _, rfl, ?_⟩
      by_cases h1 : 1 ≤ t.length
      case neg =>
        rw [if_neg (by rw [decide_eq_true_eq]; omega)]
        refine ⟨_, rfl, iteT ?_⟩
        have e := k H (Same.refl H)
        rw [decide_eq_false h1] at e
        exact e
      rw [if_pos (decide_eq_true (by omega))]
      rw [decide_eq_true h1] at k
      refine ⟨_, _, rfl, rfl, _, rfl, ?_⟩
      by_cases h8 : t.length ≤ 8
      case neg =>
        rw [decide_eq_false (by omega)]
        refine iteT ?_
        have e := k H (Same.refl H)
        rw [decide_eq_false h8] at e
        exact e
      rw [decide_eq_true (by omega : (t.length : Int) ≤ 8)]
      refine iteF ?_
      rw [decide_eq_true h8] at k
      refine ⟨_, rfl, t, rfl, fun D hD => ?_⟩
      refine lc_map walk_str hD (by have e : t.cps.size = t.length := rfl; omega) (fun _ _ => True.intro) (fun i => .bl (((t.cps.toList[i]?).map fun c => decide (c ∈ letters.cps.toList)).getD false)) ?_ ?_
      · rintro i x H1 H2 kk hi s1 ⟨rfl, c, hc, rfl⟩ hk
        refine ⟨rfl, _, rfl, c, letters, rfl, rfl, ?_⟩
        have hc2 : t.cps.toList[i]? = some c := by simpa using hc
        have e := hk _ (Same.refl H2)
        rw [hc2] at e
        exact e
      · intro H1 s1 e
        have e0 : t.cps.size = t.cps.toList.length := rfl
        rw [e0, range_map_get _ t.cps.toList (fun c => .bl (decide (c ∈ letters.cps.toList))) (fun i x hx => by rw [hx]; rfl)] at e
        refine ⟨_, t.cps.toList.map fun c => decide (c ∈ letters.cps.toList), rfl, SqL.of (by rw [e, List.map_map]; rfl), ?_⟩
        have e2 := k H1 s1
        rw [List.all_map]
        exact e2
    | _ => exact iteT (k H (Same.refl H))
def spIsTagD : Sp := fun vs H Q _ => ∃ (a : Addr) (tags : List Str) (v : V) (d : PyData), vs = [.ref a, v] ∧ WordAt H a tags ∧ Dv H v d ∧ Q (.bl (tagD tags d)) H
theorem oka_is_tag (X : TX K mg) : FnOk P w K mg base CX0 1 X.d_is_tag.a X.d_is_tag.fd ["tags", "x"] spIsTagD := by
  have nd := sc_is_tag.nd
  refine X.d_is_tag.F.ok sc_is_tag (fun vs H Q E h => ?_) (fun cdv A outer s H vs Q E hr h => ?_)
  · obtain ⟨a, tags, v, d, rfl, _⟩ := h
    rfl
  · obtain ⟨a, tags, v, d, rfl, ha, hd, k⟩ := h
    refine ⟨_, (pss_one (ps_ret (pe_and (pe_callB (QB.call_isiK K) (by rfl) X.n_isinstance QB.bo_isinstance (pa_cons (pv 1) (pa_cons (pe_bltn (v := .ty "str") (by rfl) X.n_str QB.bo_str rfl) pa_nil))) (pe_one (pe_cmpR (QB.op_inK K) (pv 1) (pv 0) rfl))))), ?_⟩
    try dsimp only [Cx.nox, Cx.wish, cxOf]
    refine ⟨_, rfl, _, _, _, _, isSD d, rfl, .ty "str", hd.ty K, kit_s d, isSD d, rfl, ?_⟩
    cases hd with
    | str t =>
      refine iteT ?_
      refine ⟨_, rfl, _, rfl, a, vS tags, rfl, .inl (SqL.of ha), rfl, vS_flat, ?_⟩
      show Q (.bl (if false = true then !inV (.str t) (vS tags) else inV (.str t) (vS tags))) H
      rw [if_neg Bool.false_ne_true, inV_word]
      exact k
    | _ => exact iteF k
def spIsSubjectD : Sp := fun vs H Q _ => ∃ (a : Addr) (tags : List Str) (v : V) (d : PyData), vs = [.ref a, v] ∧ WordAt H a tags ∧ Dv H v d ∧ d.weight ≤ 10000 ∧ ∀ H', Same H H' → Q (.bl (subjD tags d)) H'
theorem oka_is_subject (X : TX K mg) : FnOk P w K mg base CX0 2 X.d_is_subject.a X.d_is_subject.fd ["tags", "x"] spIsSubjectD := by
  have nd := sc_is_subject.nd
  refine X.d_is_subject.F.ok sc_is_subject (fun vs H Q E h => ?_) (fun cdv A outer s H vs Q E hr h => ?_)
  · obtain ⟨a, tags, v, d, rfl, _⟩ := h
    rfl
  · obtain ⟨a, tags, v, d, rfl, ha, hd, hz, k⟩ := h
    refine ⟨_, ((pss_one (ps_ret (pe_and (pe_callB (QB.call_isiK K) (by rfl) X.n_isinstance QB.bo_isinstance (pa_cons (pv 1) (pa_cons (pe_bltn (v := .ty "list") (by rfl) X.n_list QB.bo_list rfl) pa_nil))) (pe_one (pe_callB (QB.cr_allK K rfl) (by rfl) X.n_all QB.bo_all (pa_cons (pe_lc (own := [("tag", 2)]) (g := gName 2) (tt := tYes) rfl nd (QB.pi_listK K (pv 1)) (blkOk_by (N := ["tags", "x", "tag"]) (sc := defScope s_is_subject) (by decide +kernel)) (fun _ _ _ _ _ => pg_name (i := 2) nd rfl (Or.inl rfl)) (fun _ _ _ _ _ => pts_nil) (fun _ _ _ _ _ => (pe_call (oka_is_tag X) (hr.mono (by decide)) rfl X.d_is_tag.mg X.d_is_tag.F.kp X.d_is_tag.b .nil pass0 (pa_cons (pv 0) (pa_cons (pv 2) pa_nil))))) pa_nil))))))), ?_⟩
    try dsimp only [Cx.nox, Cx.wish, cxOf]
    refine ⟨_, rfl, _, _, _, _, isLD d, rfl, .ty "list", hd.ty K, kit_l d, isLD d, rfl, ?_⟩
    cases hd with
    | @lst b xs ds hb hall =>
      refine iteT ?_
      rw [w_list] at hz
      have hzl := all_len ds
      have hln := hall.len
      have k : ∀ H', Same H H' → Q (.bl (ds.all (tagD tags))) H' := k
      refine ⟨_, rfl, _, rfl, ⟨_, SqL.of hb⟩, fun D hD => ?_⟩
      refine lc_map (walk_list (K := K) (a := b) (xs := xs)) hD (by omega) (fun H1 s1 => SqL.of (s1 _ _ hb)) (fun i => .bl (((ds[i]?).map (tagD tags)).getD false)) ?_ ?_
      · rintro i x H1 H2 kk hi s1 ⟨rfl, hy⟩ hk
        obtain ⟨d, hd, hv⟩ := hall.get hy
        refine ⟨rfl, _, rfl, _, rfl, a, tags, x, d, rfl, Same.word s1 ha, hv.same s1, ?_⟩
        have e := hk _ (Same.refl H2)
        rw [hd] at e
        exact e
      · intro H1 s1 e
        rw [← hln, range_map_get _ ds (fun t => .bl (tagD tags t)) (fun i x hx => by rw [hx]; rfl)] at e
        refine ⟨_, ds.map (tagD tags), rfl, SqL.of (by rw [e, List.map_map]; rfl), ?_⟩
        have e2 := k H1 s1
        rw [List.all_map]
        exact e2
    | _ => exact iteF (k H (Same.refl H))
end
end Law
end

section
set_option Elab.async false
set_option linter.all false
set_option maxRecDepth 100000
set_option maxHeartbeats 4000000
namespace Law
open PySem PySem.Spec PyProof.Rows L2 LamX QB QM QV
theorem strs_eq {H : Hp} : ∀ {wd : List Str} {xs : List V}, DvAll H xs (wd.map .str) → xs = vS wd
  | [], _, h => by
    cases h
    rfl
  | t :: wd, _, h => by
    cases h with
    | cons h1 h2 =>
      cases h1
      rw [strs_eq h2]
      rfl
def badWord (tags : List Str) (ds : List PyData) (i : Nat) : Bool := match ds[i]? with
  | some d => !tagD tags d
  | none => false
def wordDue (tags : List Str) (most : Nat) : PyData → Option V
  | .list ds => if ds.length ≤ most then idx (firstBad (badWord tags ds) ds.length) else some .non
  | _ => some .non
theorem tagD_str {tags : List Str} {d : PyData} (h : tagD tags d = true) : ∃ t, d = .str t ∧ t ∈ tags := by
  cases d with
  | str t => exact ⟨t, rfl, of_decide_eq_true h⟩
  | _ => cases h
theorem tags_strs {tags : List Str} : ∀ {ds : List PyData}, (∀ d ∈ ds, tagD tags d = true) → ∃ wd : List Str, ds = wd.map .str ∧ ∀ t ∈ wd, t ∈ tags
  | [], _ => ⟨[], rfl, fun _ h => nomatch h⟩
  | d :: ds, h => by
    obtain ⟨wd, e, hn⟩ := tags_strs fun x hx => h x (List.mem_cons_of_mem _ hx)
    obtain ⟨t, rfl, ht⟩ := tagD_str (h d List.mem_cons_self)
    refine ⟨t :: wd, by rw [e]; rfl, fun u hu => ?_⟩
    rcases List.mem_cons.mp hu with rfl | hu
    · exact ht
    · exact hn u hu
theorem firstBad_none {p : Nat → Bool} {n : Nat} (h : idx (firstBad p n) = none) : ∀ i < n, p i = false := by
  cases q : firstBad p n with
  | none => exact none_first q
  | some i =>
    rw [q] at h
    cases h
theorem word_ofD {H : Hp} {v : V} {d : PyData} {tags : List Str} {most : Nat} (h : Dv H v d) (hd : wordDue tags most d = none) : ∃ (a : Addr) (wd : Word), v = .ref a ∧ WordAt H a wd ∧ wd.length ≤ most ∧ ∀ t ∈ wd, t ∈ tags := by
  cases h with
  | @lst a xs ds ha hall =>
    have hd : (if ds.length ≤ most then idx (firstBad (badWord tags ds) ds.length) else some .non) = none := hd
    by_cases hl : ds.length ≤ most
    · rw [if_pos hl] at hd
      have good := firstBad_none hd
      obtain ⟨wd, e, hw⟩ := tags_strs (tags := tags) (ds := ds) fun d hm => by
        obtain ⟨i, hi, e⟩ := List.mem_iff_getElem.mp hm
        have b := good i hi
        unfold badWord at b
        rw [List.getElem?_eq_getElem hi, e] at b
        simpa using b
      subst e
      rw [List.length_map] at hl
      exact ⟨a, wd, rfl, by rw [strs_eq hall] at ha; exact ha, hl, hw⟩
    · rw [if_neg hl] at hd
      cases hd
  | _ => cases hd
section
variable {P : Program} {w : World} {K : PySem.W.Frag} {mg : Str → Option Value} {base : Heap}
def spCheckWordD (C : Addr) : Sp := fun vs H Q E => ∃ (a : Addr) (tags : List Str) (v : V) (d : PyData) (most : Nat), vs = [.ref a, v, .int (most : Int)] ∧ WordAt H a tags ∧ Dv H v d ∧ d.weight ≤ 10000 ∧ (∀ iv, wordDue tags most d = some iv → Bad C "index" iv H E) ∧ (wordDue tags most d = none → ∀ H', Same H H' → Q .non H')
theorem okx_check_word (X : TX K mg) : FnOk P w K mg base (L2.CX P w) 3 X.d_check_word.a X.d_check_word.fd ["tags", "word", "most"] (spCheckWordD X.e_InvalidSubject) := by
  have nd := sc_check_word.nd
  refine X.d_check_word.F.okX sc_check_word (fun vs H Q E h => ?_) (fun cdv A outer s H vs Q E hr h => ?_)
  · obtain ⟨a, tags, v, d, most, rfl, _⟩ := h
    rfl
  · obtain ⟨ta, tags, v, d, most, rfl, hta, hd, hz, hbad, hok⟩ := h
    refine ⟨_, (pss_cons (ps_if (pt_not (pt_val (pe_call (oka_is_list X) (hr.mono (by decide)) rfl X.d_is_list.mg X.d_is_list.F.kp X.d_is_list.b .nil pass0 (pa_cons (pv 1) (pa_cons pe_int (pa_cons (pv 2) pa_nil)))))) (pss_one (ps_raise rfl (takes_of rfl rfl rfl rfl) (pmk_oex X.xt_InvalidSubject.oex X.xt_InvalidSubject.iC X.xt_InvalidSubject.tI (ok_InvalidSubject___init__ X) (hr.mono (by decide)) X.d_InvalidSubject___init__.b .nil pass0 rfl X.me_InvalidSubject (pa_cons pe_non pa_nil)))) pss_nil) (pss_one (ps_for (passes_of rfl) rfl (QB.pi_enumK K (by rfl) X.n_enumerate (pa_cons (pv 1) pa_nil)) (pg_tup (by rfl) (pgs_cons (pg_name (i := 3) nd rfl (Or.inl rfl)) (pgs_cons (pg_name (i := 4) nd rfl (Or.inl rfl)) (pgs_nil)))) (pss_one (ps_if (pt_not (pt_val (pe_call (oka_is_tag X) (hr.mono (by decide)) rfl X.d_is_tag.mg X.d_is_tag.F.kp X.d_is_tag.b .nil pass0 (pa_cons (pv 0) (pa_cons (pv 4) pa_nil))))) (pss_one (ps_raise rfl (takes_of rfl rfl rfl rfl) (pmk_oex X.xt_InvalidSubject.oex X.xt_InvalidSubject.iC X.xt_InvalidSubject.tI (ok_InvalidSubject___init__ X) (hr.mono (by decide)) X.d_InvalidSubject___init__.b .nil pass0 rfl X.me_InvalidSubject (pa_cons (pv 3) pa_nil)))) pss_nil))))), ?_⟩
    try dsimp only [Cx.nox, Cx.wish, cxOf]
    refine ⟨_, rfl, _, rfl, v, d, _, _, rfl, hd, ?_⟩
    refine ⟨_, rfl, ?_⟩
    cases q : listD 0 (most : Int) d with
    | false =>
      refine iteT ?_
      refine (hbad .non ?_).mk (K := K)
      cases d with
      | list ds =>
        have q : decide ((0 : Int) ≤ (ds.length : Int) ∧ (ds.length : Int) ≤ (most : Int)) = false := q
        rw [decide_eq_false_iff_not] at q
        show (if ds.length ≤ most then _ else _) = _
        rw [if_neg (by omega)]
      | _ => rfl
    | true =>
    refine iteF ?_
    cases hd with
    | @lst a xs ds ha hall =>
      have q : decide ((0 : Int) ≤ (ds.length : Int) ∧ (ds.length : Int) ≤ (most : Int)) = true := q
      rw [decide_eq_true_eq] at q
      have hln := hall.len
      have due : wordDue tags most (.list ds) = idx (firstBad (badWord tags ds) ds.length) := by
        show (if ds.length ≤ most then _ else _) = _
        rw [if_pos (by omega)]
      rw [due] at hbad hok
      refine ⟨_, rfl, _, _, rfl, SqL.of ha, ?_⟩
      refine for_it (walk_enum (K := K) (a := a) (xs := xs)) (fun i σ H' => ∃ v1 v2, σ = [some (.ref ta), some (.ref a), some (.int (most : Int)), v1, v2] ∧ Same H H' ∧ ∀ j < i, badWord tags ds j = false) ⟨none, none, rfl, Same.refl H, fun j hj => by omega⟩ (fun i σ H' _ ⟨_, _, _, s1, _⟩ => SqL.of (s1 _ _ ha)) ?_ ?_
      · rintro i v σ H1 H2 hi ⟨v1, v2, rfl, s1, hno⟩ ⟨tp, x1, x2, rfl, ntp, rfl, e1, e2⟩
        have e1 : some (V.int (i : Int)) = some x1 := e1
        have e2 : xs[i]? = some x2 := e2
        cases e1
        obtain ⟨d2, hd2, hv2⟩ := hall.get e2
        have s2 := Same.new s1 (o := .tup [.int (i : Int), x2]) ntp
        refine ⟨tp, _, rfl, SqT.of upd_same, rfl, _, _, rfl, _, _, rfl, rfl, ?_⟩
        refine ⟨_, rfl, _, rfl, ta, tags, x2, d2, rfl, Same.word s2 hta, hv2.same s2, ?_⟩
        have hi2 : i < ds.length := by omega
        have hbe : badWord tags ds i = !tagD tags d2 := by
          unfold badWord
          rw [hd2]
        refine ⟨_, rfl, ?_⟩
        cases hn : tagD tags d2 with
        | false =>
          rw [hn] at hbe
          refine iteT ?_
          exact ⟨_, rfl, ((hbad (.int (i : Int)) (by rw [first_at hi2 hbe hno]; rfl)).same s2).mk (K := K)⟩
        | true =>
          rw [hn] at hbe
          refine iteF ⟨_, _, rfl, s2, fun j hj => ?_⟩
          rcases Nat.lt_or_ge j i with z | z
          · exact hno j z
          · have : j = i := by omega
            subst this
            exact hbe
      · rintro σ H1 ⟨v1, v2, rfl, s1, hno⟩
        exact hok (by rw [first_none (fun i hi => hno i (by omega))]; rfl) H1 s1
    | _ => cases q
def spCheckNumD (C : Addr) : Sp := fun vs H Q E => ∃ (v : V) (d : PyData) (most : Int), vs = [v, .int most] ∧ Dv H v d ∧ (numD 0 most d = false → Bad C "number" v H E) ∧ (numD 0 most d = true → Q .non H)
theorem okx_check_number (X : TX K mg) : FnOk P w K mg base (L2.CX P w) 3 X.d_check_number.a X.d_check_number.fd ["number", "most"] (spCheckNumD X.e_InvalidNumber) := by
  have nd := sc_check_number.nd
  refine X.d_check_number.F.okX sc_check_number (fun vs H Q E h => ?_) (fun cdv A outer s H vs Q E hr h => ?_)
  · obtain ⟨v, d, most, rfl, _⟩ := h
    rfl
  · obtain ⟨v, d, most, rfl, hd, hbad, hok⟩ := h
    refine ⟨_, (pss_one (ps_if (pt_not (pt_val (pe_call (oka_is_number X) (hr.mono (by decide)) rfl X.d_is_number.mg X.d_is_number.F.kp X.d_is_number.b .nil pass0 (pa_cons (pv 0) (pa_cons pe_int (pa_cons (pv 1) pa_nil)))))) (pss_one (ps_raise rfl (takes_of rfl rfl rfl rfl) (pmk_oex X.xt_InvalidNumber.oex X.xt_InvalidNumber.iC X.xt_InvalidNumber.tI (ok_InvalidNumber___init__ X) (hr.mono (by decide)) X.d_InvalidNumber___init__.b .nil pass0 rfl X.me_InvalidNumber (pa_cons (pv 0) pa_nil)))) pss_nil)), ?_⟩
    try dsimp only [Cx.nox, Cx.wish, cxOf]
    refine ⟨_, rfl, _, rfl, v, d, _, _, rfl, hd, ?_⟩
    refine ⟨_, rfl, ?_⟩
    cases q : numD 0 most d with
    | false => exact iteT ⟨_, rfl, (hbad q).mk (K := K)⟩
    | true => exact iteF (hok q)
end
end Law
end

section
set_option Elab.async false
set_option linter.all false
set_option maxRecDepth 100000
set_option maxHeartbeats 4000000
namespace Law
open PySem PySem.Spec PyProof.Rows L2 LamX QB QM QV
/-- a number that stands below another -/
theorem num_of {H : Hp} {v : V} {d : PyData} {n : Nat} (h : Dv H v d) (e : numD 0 ((n : Int) - 1) d = true) : ∃ i : Nat, v = .int (i : Int) ∧ i < n := by
  cases h with
  | int i =>
    have e : decide ((0 : Int) ≤ i ∧ i ≤ (n : Int) - 1) = true := e
    rw [decide_eq_true_eq] at e
    exact ⟨i.toNat, by congr 1; omega, by omega⟩
  | _ => cases e
theorem boxObj {CE CM : Addr} {M : List Addr} {H : Hp} {m ll : Addr} {tags : Word} {Gs : List Form} {Gk : Form} {ws : List Word} (b : BoxAt CE CM M H m ll tags Gs Gk ws) : ∃ (dx pl ke : Addr) (ts : List Addr), H m = some (.ins CM dx (boxFs pl ke ll)) ∧ H ll = some (.lst (ts.map V.ref)) ∧ ts.length = ws.length := by
  obtain ⟨dx, pl, ke, es, ts, b⟩ := b
  exact ⟨dx, pl, ke, ts, hide_sub _ _ b.obj, b.lst, b.len⟩
section
variable {P : Program} {w : World} {K : PySem.W.Frag} {mg : Str → Option Value} {base : Heap}
/-- asked for a letter by anything -/
def spGetX (CE CM CN : Addr) (R : Hp → List Word → Nat → Word → List Form → Form → VK → Prop) : Sp := fun vs H Q E => ∃ (M : List Addr) (m ll : Addr) (tags : Word) (Gs : List Form) (Gk : Form) (ws : List Word) (v : V) (d : PyData), vs = [.ref m, v] ∧ BoxAt CE CM M H m ll tags Gs Gk ws ∧ BoxOk tags Gs Gk ∧ WsOk tags 1000 ws ∧ ws.length ≤ 1000 ∧ Dv H v d ∧
  (numD 0 ((ws.length : Int) - 1) d = false → Bad CN "number" v H E) ∧ ∀ i : Nat, v = .int (i : Int) → i < ws.length → numD 0 ((ws.length : Int) - 1) d = true → R H ws i tags Gs Gk Q
theorem okx_Mailbox___getitem__ (X : TX K mg) : FnOk P w K mg base (L2.CX P w) 4 X.d_Mailbox___getitem__.a X.d_Mailbox___getitem__.fd ["self", "number"] (spGetX X.c_Eater X.c_Mailbox X.e_InvalidNumber fun H ws i _ _ _ Q => ∀ p H', Same H H' → H p = none → WordAt H' p (ws.getD i []) → Q (.ref p) H') := by
  have nd := sc_Mailbox___getitem__.nd
  refine X.d_Mailbox___getitem__.F.okX sc_Mailbox___getitem__ (fun vs H Q E h => ?_) (fun cdv A outer s H vs Q E hr h => ?_)
  · obtain ⟨M, m, ll, tags, Gs, Gk, ws, v, d, rfl, _⟩ := h
    rfl
  · obtain ⟨M, m, ll, tags, Gs, Gk, ws, v, d, rfl, ⟨dx, pl, ke, es, ts, b⟩, ok, wo, hl, hd, bad, q⟩ := h
    refine ⟨_, (pss_cons (ps_expr (pe_call (okx_check_number X) (hr.mono (by decide)) rfl X.d_check_number.mg X.d_check_number.F.kp X.d_check_number.b .nil (passes_call (takes_of rfl rfl rfl rfl) (fun _ _ _ _ h => h)) (pa_cons (pv 1) (pa_cons (pe_op op_sub (pe_callB (QB.call_lenK K) (by rfl) X.n_len PySem.boot_len (pa_cons (QB.pe_fldK K (pv 0) rfl) pa_nil)) pe_int) pa_nil)))) (pss_one (ps_ret (pe_callTy (QB.call_listK K) (by rfl) X.n_list QB.bo_list (pa_cons (pe_ix (QB.ix_tupK K) (pe_ix (QB.ix_listK K) (QB.pe_fldK K (pv 0) rfl) (pv 1) (fun _ _ => rfl)) pe_int (fun _ _ => rfl)) pa_nil))))), ?_⟩
    try dsimp only [Cx.nox, Cx.wish, cxOf]
    have ho := hide_sub _ _ b.obj
    refine ⟨_, rfl, _, rfl, m, _, _, _, _, rfl, ho, X.cl_Mailbox, X.na_Mailbox__letters, rfl, ?_⟩
    refine ⟨_, _, rfl, .inl (SqL.of b.lst), _, _, rfl, rfl, ?_⟩
    refine ⟨v, d, _, rfl, hd, ?_, fun e => ?_⟩
    · rw [List.length_map, b.len]
      exact bad
    rw [List.length_map, b.len] at e
    obtain ⟨i, rfl, hi⟩ := num_of hd e
    obtain ⟨t, x, y, h1, h2, h3, h4⟩ := b.get hi
    refine ⟨_, rfl, m, _, _, _, _, rfl, ho, X.cl_Mailbox, X.na_Mailbox__letters, rfl, ?_⟩
    refine ⟨_, rfl, _, _, _, _, rfl, rfl, SqL.of b.lst, atI_nat (by rw [List.getElem?_map, h1]; rfl), ?_⟩
    refine ⟨t, _, 0, _, rfl, rfl, SqT.of h2, rfl, ?_⟩
    refine ⟨x, _, rfl, .inl (SqL.of h3), fun p hp => ?_⟩
    refine q i rfl hi e p _ (same_new hp) hp ?_
    show upd H p _ p = _
    rw [upd_same, List.getD_eq_getElem?_getD, List.getElem?_eq_getElem hi]
    rfl
theorem okx_Mailbox_key_of (X : TX K mg) : FnOk P w K mg base (L2.CX P w) 4 X.d_Mailbox_key_of.a X.d_Mailbox_key_of.fd ["self", "number"] (spGetX X.c_Eater X.c_Mailbox X.e_InvalidNumber fun H ws i tags _ Gk Q => ∀ p H', Same H H' → H p = none → WordAt H' p ((boxKeys tags Gk ws).getD i []) → Q (.ref p) H') := by
  have nd := sc_Mailbox_key_of.nd
  refine X.d_Mailbox_key_of.F.okX sc_Mailbox_key_of (fun vs H Q E h => ?_) (fun cdv A outer s H vs Q E hr h => ?_)
  · obtain ⟨M, m, ll, tags, Gs, Gk, ws, v, d, rfl, _⟩ := h
    rfl
  · obtain ⟨M, m, ll, tags, Gs, Gk, ws, v, d, rfl, ⟨dx, pl, ke, es, ts, b⟩, ok, wo, hl, hd, bad, q⟩ := h
    refine ⟨_, (pss_cons (ps_expr (pe_call (okx_check_number X) (hr.mono (by decide)) rfl X.d_check_number.mg X.d_check_number.F.kp X.d_check_number.b .nil (passes_call (takes_of rfl rfl rfl rfl) (fun _ _ _ _ h => h)) (pa_cons (pv 1) (pa_cons (pe_op op_sub (pe_callB (QB.call_lenK K) (by rfl) X.n_len PySem.boot_len (pa_cons (QB.pe_fldK K (pv 0) rfl) pa_nil)) pe_int) pa_nil)))) (pss_one (ps_ret (pe_callTy (QB.call_listK K) (by rfl) X.n_list QB.bo_list (pa_cons (pe_ix (QB.ix_tupK K) (pe_ix (QB.ix_listK K) (QB.pe_fldK K (pv 0) rfl) (pv 1) (fun _ _ => rfl)) pe_int (fun _ _ => rfl)) pa_nil))))), ?_⟩
    try dsimp only [Cx.nox, Cx.wish, cxOf]
    have ho := hide_sub _ _ b.obj
    refine ⟨_, rfl, _, rfl, m, _, _, _, _, rfl, ho, X.cl_Mailbox, X.na_Mailbox__letters, rfl, ?_⟩
    refine ⟨_, _, rfl, .inl (SqL.of b.lst), _, _, rfl, rfl, ?_⟩
    refine ⟨v, d, _, rfl, hd, ?_, fun e => ?_⟩
    · rw [List.length_map, b.len]
      exact bad
    rw [List.length_map, b.len] at e
    obtain ⟨i, rfl, hi⟩ := num_of hd e
    obtain ⟨t, x, y, h1, h2, h3, h4⟩ := b.get hi
    refine ⟨_, rfl, m, _, _, _, _, rfl, ho, X.cl_Mailbox, X.na_Mailbox__letters, rfl, ?_⟩
    refine ⟨_, rfl, _, _, _, _, rfl, rfl, SqL.of b.lst, atI_nat (by rw [List.getElem?_map, h1]; rfl), ?_⟩
    refine ⟨t, _, 1, _, rfl, rfl, SqT.of h2, rfl, ?_⟩
    refine ⟨y, _, rfl, .inl (SqL.of h4), fun p hp => ?_⟩
    refine q i rfl hi e p _ (same_new hp) hp ?_
    show upd H p _ p = _
    rw [upd_same, boxKeys_get hi]
theorem okx_Mailbox_talk (X : TX K mg) : FnOk P w K mg base (L2.CX P w) 5 X.d_Mailbox_talk.a X.d_Mailbox_talk.fd ["self", "number"] (spGetX X.c_Eater X.c_Mailbox X.e_InvalidNumber fun H ws i tags _ Gk Q => ∀ p H', Same H H' → H p = none → H' p = some (.lst (vN (withKey (boxKeys tags Gk ws) ws.length ((boxKeys tags Gk ws).getD i [])))) → Q (.ref p) H') := by
  have nd := sc_Mailbox_talk.nd
  refine X.d_Mailbox_talk.F.okX sc_Mailbox_talk (fun vs H Q E h => ?_) (fun cdv A outer s H vs Q E hr h => ?_)
  · obtain ⟨M, m, ll, tags, Gs, Gk, ws, v, d, rfl, _⟩ := h
    rfl
  · obtain ⟨M, m, ll, tags, Gs, Gk, ws, v, d, rfl, b, ok, wo, hl, hd, bad, q⟩ := h
    refine ⟨_, (pss_one (ps_ret (pe_meth (pv 0) X.cl_Mailbox X.h_Mailbox__with_key (ok_Mailbox__with_key X) (hr.mono (by decide)) X.d_Mailbox__with_key.b .nil pass0 (pa_cons (pe_meth (pv 0) X.cl_Mailbox X.h_Mailbox_key_of (okx_Mailbox_key_of X) (hr.mono (by decide)) X.d_Mailbox_key_of.b .nil (passes_call (takes_of rfl rfl rfl rfl) (fun _ _ _ _ h => h)) (pa_cons (pv 1) pa_nil)) pa_nil)))), ?_⟩
    try dsimp only [Cx.nox, Cx.wish, cxOf]
    obtain ⟨dx, pl, ke, es, ts, bb⟩ := b
    have ho := hide_sub _ _ bb.obj
    refine ⟨_, rfl, m, dx, _, rfl, ho, rfl, ?_⟩
    refine ⟨_, rfl, m, dx, _, rfl, ho, rfl, ?_⟩
    refine ⟨_, rfl, M, m, ll, tags, Gs, Gk, ws, v, d, rfl, ⟨dx, pl, ke, es, ts, bb⟩, ok, wo, hl, hd, bad, fun i ei hi e p H1 s1 np hp => ?_⟩
    refine ⟨M, m, ll, p, tags, Gs, Gk, ws, _, rfl, ⟨dx, pl, ke, es, ts, bb.same s1⟩, ok, wo, hp, ?_, hl, fun p2 H2 s2 n2 h2 => q i ei hi e p2 H2 (s1.trans s2) (s1.free n2) h2⟩
    rw [boxKeys_get hi]
    exact ok.key_ok (wo.get hi).1
/-- asked for an answer by anything -/
def spAnswX (CE CM CN CT : Addr) (R : List Addr → Hp → Addr → Addr → Word → List Form → Form → List Word → Nat → Nat → VK → Prop) : Sp := fun vs H Q E => ∃ (M : List Addr) (m ll : Addr) (tags : Word) (Gs : List Form) (Gk : Form) (ws : List Word) (v y : V) (d dy : PyData), vs = [.ref m, v, y] ∧
  BoxAt CE CM M H m ll tags Gs Gk ws ∧ BoxOk tags Gs Gk ∧ WsOk tags 200 ws ∧ (∀ b ∈ M, H b ≠ none) ∧ ws.length ≤ 1000 ∧ Dv H v d ∧ Dv H y dy ∧
  (numD 0 ((ws.length : Int) - 1) d = false → Bad CN "number" v H E) ∧
  (numD 0 ((ws.length : Int) - 1) d = true → numD 0 ((Gs.length : Int) - 1) dy = false → Bad CN "number" y H E) ∧
  ∀ i j : Nat, v = .int (i : Int) → y = .int (j : Int) → i < ws.length → j < Gs.length →
    (200 < (ansOf tags Gs ws i j).length → ∀ H1, Same H H1 → Bad CT "limit" (.int 200) H1 E) ∧ ((ansOf tags Gs ws i j).length ≤ 200 → R M H m ll tags Gs Gk ws i j Q)
theorem ans_sub {tags : Word} {Gs : List Form} {Gk : Form} {ws : List Word} {c i j : Nat} (ok : BoxOk tags Gs Gk) (wo : WsOk tags c ws) (hi : i < ws.length) (hj : j < Gs.length) : (∀ t ∈ ansOf tags Gs ws i j, t ∈ tags) := by
  have e1 : Gs.getD j [] = Gs[j] := by
    rw [List.getD_eq_getElem?_getD, List.getElem?_eq_getElem hj]
    rfl
  have e2 : ws.getD i [] = ws[i] := by
    rw [List.getD_eq_getElem?_getD, List.getElem?_eq_getElem hi]
    rfl
  unfold ansOf
  rw [e1, e2]
  exact make_sub (ok.gs _ (List.getElem_mem hj)).words (wo.get hi).1
theorem okx_Mailbox__answered (X : TX K mg) : FnOk P w K mg base (L2.CX P w) 5 X.d_Mailbox__answered.a X.d_Mailbox__answered.fd ["self", "number", "program"]
    (spAnswX X.c_Eater X.c_Mailbox X.e_InvalidNumber X.e_TooMany fun _ H _ _ tags Gs _ ws i j Q => ∀ p H', Same H H' → H p = none → WordAt H' p (ansOf tags Gs ws i j) → Q (.ref p) H') := by
  have nd := sc_Mailbox__answered.nd
  refine X.d_Mailbox__answered.F.okX sc_Mailbox__answered (fun vs H Q E h => ?_) (fun cdv A outer s H vs Q E hr h => ?_)
  · obtain ⟨M, m, ll, tags, Gs, Gk, ws, v, y, d, dy, rfl, _⟩ := h
    rfl
  · obtain ⟨M, m, ll, tags, Gs, Gk, ws, v, y, d, dy, rfl, ⟨dx, pl, ke, es, ts, b⟩, ok, wo, T0, hl, hd, hdy, bad1, bad2, q⟩ := h
    refine ⟨_, (pss_cons (ps_expr (pe_call (okx_check_number X) (hr.mono (by decide)) rfl X.d_check_number.mg X.d_check_number.F.kp X.d_check_number.b .nil (passes_call (takes_of rfl rfl rfl rfl) (fun _ _ _ _ h => h)) (pa_cons (pv 1) (pa_cons (pe_op op_sub (pe_callB (QB.call_lenK K) (by rfl) X.n_len PySem.boot_len (pa_cons (QB.pe_fldK K (pv 0) rfl) pa_nil)) pe_int) pa_nil)))) (pss_cons (ps_expr (pe_call (okx_check_number X) (hr.mono (by decide)) rfl X.d_check_number.mg X.d_check_number.F.kp X.d_check_number.b .nil (passes_call (takes_of rfl rfl rfl rfl) (fun _ _ _ _ h => h)) (pa_cons (pv 2) (pa_cons (pe_op op_sub (pe_callB (QB.call_lenK K) (by rfl) X.n_len PySem.boot_len (pa_cons (QB.pe_fldK K (pv 0) rfl) pa_nil)) pe_int) pa_nil)))) (pss_cons (ps_set (i := 3) nd rfl (Or.inl rfl) (pe_meth (pe_ix (QB.ix_listK K) (QB.pe_fldK K (pv 0) rfl) (pv 2) (fun _ _ => rfl)) X.cl_Eater X.h_Eater_on (ok_Eater_on X) (hr.mono (by decide)) X.d_Eater_on.b .nil pass0 (pa_cons (pe_ix (QB.ix_tupK K) (pe_ix (QB.ix_listK K) (QB.pe_fldK K (pv 0) rfl) (pv 1) (fun _ _ => rfl)) pe_int (fun _ _ => rfl)) pa_nil))) (pss_cons (ps_if (pt_cmpR op_gt (pe_callB (QB.call_lenK K) (by rfl) X.n_len PySem.boot_len (pa_cons (pv 3) pa_nil)) (pe_gc rfl X.c_LONGEST_SUBJECT) (nomark _)) (pss_one (ps_raise rfl (takes_of rfl rfl rfl rfl) (pmk_oex X.xt_TooMany.oex X.xt_TooMany.iC X.xt_TooMany.tI (ok_TooMany___init__ X) (hr.mono (by decide)) X.d_TooMany___init__.b .nil pass0 rfl X.me_TooMany (pa_cons (pe_gc rfl X.c_LONGEST_SUBJECT) pa_nil)))) pss_nil) (pss_one (ps_ret (pv 3))))))), ?_⟩
    try dsimp only [Cx.nox, Cx.wish, cxOf]
    have ho := hide_sub _ _ b.obj
    have hp := b.pro.same hide_sub
    have hel := hp.len
    refine ⟨_, rfl, _, rfl, m, _, _, _, _, rfl, ho, X.cl_Mailbox, X.na_Mailbox__letters, rfl, ?_⟩
    refine ⟨_, _, rfl, .inl (SqL.of b.lst), _, _, rfl, rfl, ?_⟩
    refine ⟨v, d, _, rfl, hd, ?_, fun e1 => ?_⟩
    · rw [List.length_map, b.len]
      exact bad1
    rw [List.length_map, b.len] at e1
    refine ⟨_, rfl, _, rfl, m, _, _, _, _, rfl, ho, X.cl_Mailbox, X.na_Mailbox__programs, rfl, ?_⟩
    refine ⟨_, _, rfl, .inl (SqL.of hp.lst), _, _, rfl, rfl, ?_⟩
    refine ⟨y, dy, _, rfl, hdy, ?_, fun e2 => ?_⟩
    · rw [List.length_map, hel]
      exact bad2 e1
    rw [List.length_map, hel] at e2
    obtain ⟨i, rfl, hi⟩ := num_of hd e1
    obtain ⟨j, rfl, hj⟩ := num_of hdy e2
    obtain ⟨q1, q2⟩ := q i j rfl rfl hi hj
    obtain ⟨t, x, z, h1, h2, h3, h4⟩ := b.get hi
    obtain ⟨e, he1, he2⟩ := hp.get hj
    obtain ⟨dx2, a2, b2, k1, k2, k3⟩ := he2
    have g1 : Gs.getD j [] = Gs[j] := by
      rw [List.getD_eq_getElem?_getD, List.getElem?_eq_getElem hj]
      rfl
    have g2 : ws.getD i [] = ws[i] := by
      rw [List.getD_eq_getElem?_getD, List.getElem?_eq_getElem hi]
      rfl
    have g : FmOk tags (Gs.getD j []) 2 := g1 ▸ ok.gs _ (List.getElem_mem hj)
    refine ⟨_, rfl, m, _, _, _, _, rfl, ho, X.cl_Mailbox, X.na_Mailbox__programs, rfl, ?_⟩
    refine ⟨_, rfl, _, _, _, _, rfl, rfl, SqL.of hp.lst, atI_nat (by rw [List.getElem?_map, he1]; rfl), ?_⟩
    refine ⟨e, dx2, _, rfl, k1, rfl, ?_⟩
    refine ⟨_, rfl, m, _, _, _, _, rfl, ho, X.cl_Mailbox, X.na_Mailbox__letters, rfl, ?_⟩
    refine ⟨_, rfl, _, _, _, _, rfl, rfl, SqL.of b.lst, atI_nat (by rw [List.getElem?_map, h1]; rfl), ?_⟩
    refine ⟨t, _, 0, _, rfl, rfl, SqT.of h2, rfl, ?_⟩
    refine ⟨e, x, tags, Gs.getD j [], ws[i], rfl, ⟨dx2, a2, b2, k1, k2, k3⟩, h3, g.good, (wo.get hi).1, (wo.get hi).2, fun s hs => by have := g.len s hs; omega, fun p H1 s1 np hpp => ?_⟩
    have hw : WordAt H1 p (ansOf tags Gs ws i j) := by
      unfold ansOf
      rw [g2]
      exact hpp
    refine ⟨_, rfl, _, _, rfl, .inl (SqL.of hw), _, _, rfl, rfl, _, rfl, ?_⟩
    rw [vS_len]
    by_cases hlen : 200 < (ansOf tags Gs ws i j).length
    · rw [decide_eq_true (by omega)]
      refine iteT ?_
      exact (q1 hlen H1 s1).mk (K := K)
    · rw [decide_eq_false (by omega)]
      refine iteF ?_
      exact ⟨_, rfl, q2 (by omega) p H1 s1 np hw⟩
theorem okx_Mailbox_answer (X : TX K mg) : FnOk P w K mg base (L2.CX P w) 6 X.d_Mailbox_answer.a X.d_Mailbox_answer.fd ["self", "number", "program"]
    (spAnswX X.c_Eater X.c_Mailbox X.e_InvalidNumber X.e_TooMany fun M H m ll tags Gs Gk ws i j Q => Came X.c_Eater X.c_Mailbox M H m ll tags Gs Gk ws (ansOf tags Gs ws i j) Q) := by
  have nd := sc_Mailbox_answer.nd
  refine X.d_Mailbox_answer.F.okX sc_Mailbox_answer (fun vs H Q E h => ?_) (fun cdv A outer s H vs Q E hr h => ?_)
  · obtain ⟨M, m, ll, tags, Gs, Gk, ws, v, y, d, dy, rfl, _⟩ := h
    rfl
  · obtain ⟨M, m, ll, tags, Gs, Gk, ws, v, y, d, dy, rfl, b, ok, wo, T0, hl, hd, hdy, bad1, bad2, q⟩ := h
    refine ⟨_, (pss_one (ps_ret (pe_meth (pv 0) X.cl_Mailbox X.h_Mailbox__come (ok_Mailbox__come X) (hr.mono (by decide)) X.d_Mailbox__come.b .nil pass0 (pa_cons (pe_meth (pv 0) X.cl_Mailbox X.h_Mailbox__answered (okx_Mailbox__answered X) (hr.mono (by decide)) X.d_Mailbox__answered.b .nil (passes_call (takes_of rfl rfl rfl rfl) (fun _ _ _ _ h => h)) (pa_cons (pv 1) (pa_cons (pv 2) pa_nil))) pa_nil)))), ?_⟩
    try dsimp only [Cx.nox, Cx.wish, cxOf]
    obtain ⟨dx, pl, ke, es, ts, bb⟩ := b
    have ho := hide_sub _ _ bb.obj
    refine ⟨_, rfl, m, dx, _, rfl, ho, rfl, ?_⟩
    refine ⟨_, rfl, m, dx, _, rfl, ho, rfl, ?_⟩
    refine ⟨_, rfl, _, rfl, M, m, ll, tags, Gs, Gk, ws, v, y, d, dy, rfl, ⟨dx, pl, ke, es, ts, bb⟩, ok, wo, T0, hl, hd, hdy, bad1, bad2, fun i j ei ej hi hj => ⟨(q i j ei ej hi hj).1, fun hlen p H1 s1 np hp => ?_⟩⟩
    exact ⟨M, m, ll, p, tags, Gs, Gk, ws, _, rfl, ⟨dx, pl, ke, es, ts, bb.same s1⟩, ok, tr_same T0 s1, hp, not_in T0 np, ans_sub ok wo hi hj, hlen, hl, fun H' b' x n => (q i j ei ej hi hj).2 hlen H' b' ((Exc.of s1).trans x) n⟩
theorem okx_Mailbox_tried (X : TX K mg) : FnOk P w K mg base (L2.CX P w) 6 X.d_Mailbox_tried.a X.d_Mailbox_tried.fd ["self", "number", "program"]
    (spAnswX X.c_Eater X.c_Mailbox X.e_InvalidNumber X.e_TooMany fun M H m ll tags Gs Gk ws i j Q => ∀ p H', Same H H' → Q (.ref p) H') := by
  have nd := sc_Mailbox_tried.nd
  refine X.d_Mailbox_tried.F.okX sc_Mailbox_tried (fun vs H Q E h => ?_) (fun cdv A outer s H vs Q E hr h => ?_)
  · obtain ⟨M, m, ll, tags, Gs, Gk, ws, v, y, d, dy, rfl, _⟩ := h
    rfl
  · obtain ⟨M, m, ll, tags, Gs, Gk, ws, v, y, d, dy, rfl, b, ok, wo, T0, hl, hd, hdy, bad1, bad2, q⟩ := h
    refine ⟨_, (pss_one (ps_ret (pe_op op_cat (pe_meth (pv 0) X.cl_Mailbox X.h_Mailbox__with_key (ok_Mailbox__with_key X) (hr.mono (by decide)) X.d_Mailbox__with_key.b .nil pass0 (pa_cons (pe_meth (QB.pe_fldK K (pv 0) rfl) X.cl_Eater X.h_Eater_on (ok_Eater_on X) (hr.mono (by decide)) X.d_Eater_on.b .nil pass0 (pa_cons (pe_meth (pv 0) X.cl_Mailbox X.h_Mailbox__answered (okx_Mailbox__answered X) (hr.mono (by decide)) X.d_Mailbox__answered.b .nil (passes_call (takes_of rfl rfl rfl rfl) (fun _ _ _ _ h => h)) (pa_cons (pv 1) (pa_cons (pv 2) pa_nil))) pa_nil)) pa_nil)) (pe_lst (pa_cons (pe_callB (QB.call_lenK K) (by rfl) X.n_len PySem.boot_len (pa_cons (QB.pe_fldK K (pv 0) rfl) pa_nil)) pa_nil))))), ?_⟩
    try dsimp only [Cx.nox, Cx.wish, cxOf]
    obtain ⟨dx, pl, ke, es, ts, bb⟩ := b
    have ho := hide_sub _ _ bb.obj
    have hke := bb.key.same hide_sub
    obtain ⟨dx2, a2, b2, k1, k2, k3⟩ := hke
    refine ⟨_, rfl, m, dx, _, rfl, ho, rfl, ?_⟩
    refine ⟨_, rfl, m, _, _, _, _, rfl, ho, X.cl_Mailbox, X.na_Mailbox__key, rfl, ?_⟩
    refine ⟨ke, dx2, _, rfl, k1, rfl, ?_⟩
    refine ⟨_, rfl, m, dx, _, rfl, ho, rfl, ?_⟩
    refine ⟨_, rfl, _, rfl, M, m, ll, tags, Gs, Gk, ws, v, y, d, dy, rfl, ⟨dx, pl, ke, es, ts, bb⟩, ok, wo, T0, hl, hd, hdy, bad1, bad2, fun i j ei ej hi hj => ⟨(q i j ei ej hi hj).1, fun hlen p H1 s1 np hp => ?_⟩⟩
    have as_ := ans_sub ok wo hi hj
    refine ⟨ke, p, tags, Gk, ansOf tags Gs ws i j, rfl, ⟨dx2, a2, b2, s1 _ _ k1, Same.word s1 k2, Same.form s1 k3⟩, hp, ok.gk.good, as_, hlen, fun s hs => by have := ok.gk.len s hs; omega, fun p2 H2 s2 n2 h2 => ?_⟩
    have s12 := s1.trans s2
    refine ⟨M, m, ll, p2, tags, Gs, Gk, ws, make tags Gk (ansOf tags Gs ws i j), rfl, ⟨dx, pl, ke, es, ts, bb.same s12⟩, ok, fun wd hw => ⟨(wo wd hw).1, by have := (wo wd hw).2; omega⟩, h2, ok.key_ok as_, hl, fun p3 H3 s3 n3 h3 => ?_⟩
    have s13 := s12.trans s3
    refine ⟨_, rfl, m, _, _, _, _, rfl, s13 _ _ ho, X.cl_Mailbox, X.na_Mailbox__letters, rfl, ?_⟩
    refine ⟨_, _, rfl, .inl (SqL.of (s13 _ _ bb.lst)), by show 1 ≤ sizeLine; decide, fun p4 n4 => ?_⟩
    have s4 : Same H3 (upd H3 p4 (.lst [.int (((ts.map V.ref).length : Nat) : Int)])) := same_new n4
    refine ⟨_, _, _, _, rfl, rfl, s4 _ _ h3, upd_same, by rw [vN_len]; have := withKey_len (boxKeys tags Gk ws) ws.length (make tags Gk (ansOf tags Gs ws i j)); exact sz_le (by show _ + 1 ≤ _; omega), fun p5 n5 => ?_⟩
    have s5 := s13.trans s4
    exact (q i j ei ej hi hj).2 hlen p5 _ (s5.trans (same_new n5))
/-- begun with anything -/
def spBeginX (CE CM CS : Addr) : Sp := fun vs H Q E => ∃ (M : List Addr) (m ll : Addr) (tags : Word) (Gs : List Form) (Gk : Form) (ws : List Word) (v : V) (d : PyData), vs = [.ref m, v] ∧ BoxAt CE CM M H m ll tags Gs Gk ws ∧ BoxOk tags Gs Gk ∧ (∀ b ∈ M, H b ≠ none) ∧ ws.length ≤ 1000 ∧ Dv H v d ∧ d.weight ≤ 10000 ∧
  (∀ iv, wordDue tags 200 d = some iv → ∀ H1, Same H H1 → Bad CS "index" iv H1 E) ∧ (wordDue tags 200 d = none → ∀ a wd, v = .ref a → WordAt H a wd → Came CE CM M H m ll tags Gs Gk ws wd Q)
theorem okx_Mailbox_begin (X : TX K mg) : FnOk P w K mg base (L2.CX P w) 6 X.d_Mailbox_begin.a X.d_Mailbox_begin.fd ["self", "subject"] (spBeginX X.c_Eater X.c_Mailbox X.e_InvalidSubject) := by
  have nd := sc_Mailbox_begin.nd
  refine X.d_Mailbox_begin.F.okX sc_Mailbox_begin (fun vs H Q E h => ?_) (fun cdv A outer s H vs Q E hr h => ?_)
  · obtain ⟨M, m, ll, tags, Gs, Gk, ws, v, d, rfl, _⟩ := h
    rfl
  · obtain ⟨M, m, ll, tags, Gs, Gk, ws, v, d, rfl, ⟨dx, pl, ke, es, ts, b⟩, ok, T0, hl, hd, hw8, bad, q⟩ := h
    refine ⟨_, (pss_cons (ps_expr (pe_call (okx_check_word X) (hr.mono (by decide)) rfl X.d_check_word.mg X.d_check_word.F.kp X.d_check_word.b .nil (passes_call (takes_of rfl rfl rfl rfl) (fun _ _ _ _ h => h)) (pa_cons (pe_meth0 (QB.pe_fldK K (pv 0) rfl) X.cl_Eater X.h_Eater_tags (ok_Eater_tags X) (hr.mono (by decide)) X.d_Eater_tags.b .nil pass0) (pa_cons (pv 1) (pa_cons (pe_gc rfl X.c_LONGEST_SUBJECT) pa_nil))))) (pss_one (ps_ret (pe_meth (pv 0) X.cl_Mailbox X.h_Mailbox__come (ok_Mailbox__come X) (hr.mono (by decide)) X.d_Mailbox__come.b .nil pass0 (pa_cons (pe_callTy (QB.call_listK K) (by rfl) X.n_list QB.bo_list (pa_cons (pv 1) pa_nil)) pa_nil))))), ?_⟩
    try dsimp only [Cx.nox, Cx.wish, cxOf]
    have ho := hide_sub _ _ b.obj
    have hke := b.key.same hide_sub
    obtain ⟨dx2, a2, b2, k1, k2, k3⟩ := hke
    refine ⟨_, rfl, m, _, _, _, _, rfl, ho, X.cl_Mailbox, X.na_Mailbox__key, rfl, ?_⟩
    refine ⟨ke, dx2, _, rfl, k1, rfl, ?_⟩
    refine ⟨ke, tags, Gk, rfl, ⟨dx2, a2, b2, k1, k2, k3⟩, fun p np => ?_⟩
    have s1 : Same H (upd H p (.lst (vS tags))) := same_new np
    have hp : WordAt (upd H p (.lst (vS tags))) p tags := upd_same
    refine ⟨_, rfl, p, tags, v, d, 200, rfl, hp, hd.same s1, hw8, fun iv h => bad iv h _ s1, fun hok H2 s2 => ?_⟩
    have s12 := s1.trans s2
    obtain ⟨a, wd, ev, ha, hlen, hsub⟩ := word_ofD hd hok
    subst ev
    refine ⟨_, rfl, m, dx, _, rfl, s12 _ _ ho, rfl, ?_⟩
    refine ⟨_, rfl, _, _, rfl, .inl (SqL.of (Same.word s12 ha)), fun c nc => ?_⟩
    have s3 : Same H2 (upd H2 c (.lst (vS wd))) := same_new nc
    have s := s12.trans s3
    have T3 : ∀ b ∈ M, H2 b ≠ none := tr_same T0 s12
    exact ⟨M, m, ll, c, tags, Gs, Gk, ws, wd, rfl, ⟨dx, pl, ke, es, ts, b.same s⟩, ok, tr_same T0 s, upd_same, not_in T3 nc, hsub, hlen, hl, fun H' b' x n => q hok a wd rfl ha H' b' ((Exc.of s).trans x) n⟩
end
end Law
end

section
set_option Elab.async false
set_option linter.all false
set_option maxRecDepth 100000
set_option maxHeartbeats 4000000
namespace Law
open PySem PySem.Spec PyProof.Rows L2 LamX QB QM QV
/-- what may stand where an eater is asked for -/
inductive Prog
  | eat (tags : Word) (G : Form)
  | non
  | lst
def Prog.tags : Prog → Option Word
  | .eat t _ => some t
  | _ => none
def ProgV (CE : Addr) (H : Hp) (v : V) : Prog → Prop
  | .eat tags G => ∃ e, v = .ref e ∧ EatAt CE H e tags G ∧ OkWord tags
  | .non => v = .non
  | .lst => ∃ p xs, v = .ref p ∧ H p = some (.lst xs)
theorem ProgV.same {CE : Addr} {H H' : Hp} {v : V} : ∀ {x : Prog}, ProgV CE H v x → Same H H' → ProgV CE H' v x
  | .eat _ _, ⟨e, h1, h2, h3⟩, s => ⟨e, h1, h2.same s, h3⟩
  | .non, h, _ => h
  | .lst, ⟨p, xs, h1, h2⟩, s => ⟨p, xs, h1, s _ _ h2⟩
def badP (xs : List Prog) (i : Nat) : Bool := match xs[i]? with
  | some x => x.tags.isNone || decide (x.tags ≠ (xs.head?.bind Prog.tags))
  | none => false
def progDue (xs : List Prog) : Option V := if 1 ≤ xs.length ∧ xs.length ≤ 6 then idx (firstBad (badP xs) xs.length) else some .non
def NoList (H : Hp) (v : V) : Prop := v = .non ∨ ∃ p ys, v = .ref p ∧ H p = some (.tup ys)
theorem paired_same {CE : Addr} {H H' : Hp} {vs : List V} {xs : List Prog} (h : Paired (ProgV CE H) vs xs) (s : Same H H') : Paired (ProgV CE H') vs xs := L2.Paired.mapP h fun _ _ z => z.same s
section
variable {P : Program} {w : World} {K : PySem.W.Frag} {mg : Str → Option Value} {base : Heap}
def spIsListT : Sp := fun vs H Q _ => ∃ (v : V) (lo hi : Int), vs = [v, .int lo, .int hi] ∧ ((∃ p xs, v = .ref p ∧ H p = some (.lst xs) ∧ Q (.bl (decide (lo ≤ (xs.length : Int) ∧ (xs.length : Int) ≤ hi))) H) ∨ (NoList H v ∧ Q (.bl false) H))
theorem okt_is_list (X : TX K mg) : FnOk P w K mg base CX0 1 X.d_is_list.a X.d_is_list.fd ["x", "least", "most"] spIsListT := by
  have nd := sc_is_list.nd
  refine X.d_is_list.F.ok sc_is_list (fun vs H Q E h => ?_) (fun cdv A outer s H vs Q E hr h => ?_)
  · obtain ⟨v, lo, hi, rfl, _⟩ := h
    rfl
  · obtain ⟨v, lo, hi, rfl, k⟩ := h
    refine ⟨_, (pss_one (ps_ret (pe_and (pe_callB (QB.call_isiK K) (by rfl) X.n_isinstance QB.bo_isinstance (pa_cons (pv 0) (pa_cons (pe_bltn (v := .ty "list") (by rfl) X.n_list QB.bo_list rfl) pa_nil))) (pe_one (pe_chain op_le op_le (pv 1) (pe_callB (QB.call_lenK K) (by rfl) X.n_len PySem.boot_len (pa_cons (pv 0) pa_nil)) (pv 2)))))), ?_⟩
    try dsimp only [Cx.nox, Cx.wish, cxOf]
    rcases k with ⟨p, xs, rfl, hp, k⟩ | ⟨rfl | ⟨p, ys, rfl, hp⟩, k⟩
    · refine ⟨_, rfl, _, _, _, _, true, rfl, .ty "list", .base (.lst hp), kit_l (.list []), true, rfl, ?_⟩
      refine iteT ?_
      refine ⟨_, rfl, _, rfl, _, _, rfl, .inl (SqL.of hp), _, _, rfl, rfl, _, rfl, ?_⟩
      by_cases h1 : lo ≤ (xs.length : Int)
      · rw [if_pos (decide_eq_true h1)]
        refine ⟨_, rfl, _, _, rfl, rfl, ?_⟩
        have e : decide (lo ≤ (xs.length : Int) ∧ (xs.length : Int) ≤ hi) = decide ((xs.length : Int) ≤ hi) := by simp [h1]
        rw [e] at k
        exact k
      · rw [if_neg (by simpa using h1)]
        have e : decide (lo ≤ (xs.length : Int) ∧ (xs.length : Int) ≤ hi) = false := by simp [h1]
        rw [e] at k
        exact k
    · refine ⟨_, rfl, _, _, _, _, false, rfl, .ty "list", .base .non, kit_l .none, false, rfl, ?_⟩
      exact iteF k
    · refine ⟨_, rfl, _, _, _, _, false, rfl, .ty "list", .base (.tup hp), kit_l (.tuple []), false, rfl, ?_⟩
      exact iteF k
/-- what isinstance tells of such a value -/
theorem prog_ty {X : TX K mg} {H : Hp} : ∀ {v : V} {x : Prog}, ProgV X.c_Eater H v x → ∃ t, TyX K H v t ∧ PySem.W.kitOne K t (.ref X.c_Eater) = some (!x.tags.isNone)
  | _, .eat tags G, ⟨e, rfl, ⟨dx, a1, b1, g1, _, _⟩, _⟩ => ⟨_, .base (X.oc_Eater.ty X.cl_Eater g1), QO.OwnC.self⟩
  | _, .non, rfl => ⟨_, .base .non, X.oc_Eater.kN⟩
  | _, .lst, ⟨p, xs, rfl, hp⟩ => ⟨_, .base (.lst hp), X.oc_Eater.kL⟩
def spCheckProgsX (CE CP : Addr) : Sp := fun vs H Q E => ∃ (v : V), vs = [v] ∧
  ((∃ p us xs, v = .ref p ∧ H p = some (.lst us) ∧ Paired (ProgV CE H) us xs ∧ xs.length ≤ 1000 ∧ (∀ iv, progDue xs = some iv → ∀ H1, Same H H1 → Bad CP "index" iv H1 E) ∧ (progDue xs = none → ∀ H', Same H H' → Q .non H')) ∨
   (NoList H v ∧ Bad CP "index" .non H E))
theorem okx_check_programs (X : TX K mg) : FnOk P w K mg base (L2.CX P w) 3 X.d_check_programs.a X.d_check_programs.fd ["programs"] (spCheckProgsX X.c_Eater X.e_InvalidPrograms) := by
  have nd := sc_check_programs.nd
  refine X.d_check_programs.F.okX sc_check_programs (fun vs H Q E h => ?_) (fun cdv A outer s H vs Q E hr h => ?_)
  · obtain ⟨v, rfl, _⟩ := h
    rfl
  · obtain ⟨v, rfl, k⟩ := h
    refine ⟨_, (pss_cons (ps_if (pt_not (pt_val (pe_call (okt_is_list X) (hr.mono (by decide)) rfl X.d_is_list.mg X.d_is_list.F.kp X.d_is_list.b .nil pass0 (pa_cons (pv 0) (pa_cons pe_int (pa_cons (pe_gc rfl X.c_MOST_PROGRAMS) pa_nil)))))) (pss_one (ps_raise rfl (takes_of rfl rfl rfl rfl) (pmk_oex X.xt_InvalidPrograms.oex X.xt_InvalidPrograms.iC X.xt_InvalidPrograms.tI (ok_InvalidPrograms___init__ X) (hr.mono (by decide)) X.d_InvalidPrograms___init__.b .nil pass0 rfl X.me_InvalidPrograms (pa_cons pe_non pa_nil)))) pss_nil) (pss_one (ps_for (passes_of rfl) rfl (QB.pi_enumK K (by rfl) X.n_enumerate (pa_cons (pv 0) pa_nil)) (pg_tup (by rfl) (pgs_cons (pg_name (i := 1) nd rfl (Or.inl rfl)) (pgs_cons (pg_name (i := 2) nd rfl (Or.inl rfl)) (pgs_nil)))) (pss_one (ps_if (PW.pt (pw_or (pt_not (pt_val (pe_callB (QB.call_isiK K) (by rfl) X.n_isinstance QB.bo_isinstance (pa_cons (pv 2) (pa_cons (pe_glob (v := .ref X.c_Eater) rfl X.m_Eater rfl) pa_nil))))) (pw_or1 (pt_cmpR (QB.op_neDK K hr.units) (pe_meth0 (pv 2) X.cl_Eater X.h_Eater_tags (ok_Eater_tags X) (hr.mono (by decide)) X.d_Eater_tags.b .nil pass0) (pe_meth0 (pe_ix (QB.ix_listK K) (pv 0) pe_int (fun _ _ => rfl)) X.cl_Eater X.h_Eater_tags (ok_Eater_tags X) (hr.mono (by decide)) X.d_Eater_tags.b .nil pass0) (nomark _))))) (pss_one (ps_raise rfl (takes_of rfl rfl rfl rfl) (pmk_oex X.xt_InvalidPrograms.oex X.xt_InvalidPrograms.iC X.xt_InvalidPrograms.tI (ok_InvalidPrograms___init__ X) (hr.mono (by decide)) X.d_InvalidPrograms___init__.b .nil pass0 rfl X.me_InvalidPrograms (pa_cons (pv 1) pa_nil)))) pss_nil))))), ?_⟩
    try dsimp only [Cx.nox, Cx.wish, cxOf]
    rcases k with ⟨p, us, xs, rfl, hp, hx, hl, bad, q⟩ | ⟨nl, bad⟩
    · have hul : us.length = xs.length := Paired.length hx
      refine ⟨_, rfl, _, _, _, rfl, .inl ⟨p, us, rfl, hp, ?_⟩⟩
      refine ⟨_, rfl, ?_⟩
      by_cases hn : 1 ≤ xs.length ∧ xs.length ≤ 6
      · rw [decide_eq_true (by omega)]
        refine iteF ?_
        have due : progDue xs = idx (firstBad (badP xs) xs.length) := if_pos hn
        rw [due] at bad q
        refine ⟨_, rfl, _, _, rfl, SqL.of hp, ?_⟩
        refine for_it (walk_enum (K := K) (a := p) (xs := us)) (fun i σ H' => ∃ v1 v2, σ = [some (.ref p), v1, v2] ∧ Same H H' ∧ ∀ j < i, badP xs j = false) ⟨none, none, rfl, Same.refl H, fun j hj => by omega⟩ (fun i σ H' _ ⟨_, _, _, s1, _⟩ => SqL.of (s1 _ _ hp)) ?_ ?_
        · rintro i v σ H1' H1 hi ⟨v1, v2, rfl, s1, hno⟩ ⟨tp, x1, x2, rfl, ntp, rfl, e1, e2⟩
          cases e1
          have hi2 : i < xs.length := by omega
          have e2 : us[i]? = some x2 := e2
          obtain ⟨u, hu, hxu⟩ := paired_get (paired_same hx s1) (List.getElem?_eq_getElem hi2)
          rw [e2] at hu
          cases hu
          have s2 := Same.new (Same.refl H1') (o := .tup [.int (i : Int), x2]) ntp
          have tp8 : (upd H1' tp (.tup [.int (i : Int), x2])) tp = some (.tup [.int (i : Int), x2]) := upd_same
          have s12 := s1.trans s2
          have hxu := hxu.same s2
          generalize upd H1' tp (.tup [.int (i : Int), x2]) = H2 at s2 tp8 s12 hxu ⊢
          refine ⟨tp, _, rfl, SqT.of tp8, rfl, _, _, rfl, _, _, rfl, rfl, ?_⟩
          obtain ⟨t, ty, kt⟩ := prog_ty (X := X) hxu
          refine ⟨_, rfl, ?_⟩
          dsimp only [tNil, tCons]
          refine ⟨_, _, _, _, _, rfl, .own _, ty, kt, _, rfl, ?_⟩
          have hbe : badP xs i = ((xs[i]).tags.isNone || decide ((xs[i]).tags ≠ (xs.head?.bind Prog.tags))) := by
            unfold badP
            rw [List.getElem?_eq_getElem hi2]
          generalize hxi : xs[i] = xi at hxu kt hbe ⊢
          cases xi with
          | non =>
            refine iteT ?_
            refine iteT ?_
            exact ⟨_, rfl, (bad (.int (i : Int)) (by rw [first_at hi2 hbe hno]; rfl) H2 s12).mk (K := K)⟩
          | lst =>
            refine iteT ?_
            refine iteT ?_
            exact ⟨_, rfl, (bad (.int (i : Int)) (by rw [first_at hi2 hbe hno]; rfl) H2 s12).mk (K := K)⟩
          | eat tags G =>
            refine iteF ?_
            obtain ⟨e, rfl, hE, okw⟩ := hxu
            obtain ⟨dx, a1, b1, g1, g2, g3⟩ := hE
            refine ⟨_, rfl, e, dx, _, rfl, g1, rfl, ?_⟩
            refine ⟨e, tags, _, rfl, ⟨dx, a1, b1, g1, g2, g3⟩, fun p1 n1 => ?_⟩
            have t1 := same_new (o := .lst (vS tags)) n1
            have w1 : WordAt (upd H2 p1 (.lst (vS tags))) p1 tags := upd_same
            generalize upd H2 p1 (.lst (vS tags)) = H3 at t1 w1 ⊢
            have s13 := s12.trans t1
            -- the first
            have h0 : ∃ tags0 G0, xs[0]? = some (.eat tags0 G0) := by
              by_cases z : i = 0
              · subst z
                exact ⟨tags, G, by rw [List.getElem?_eq_getElem hi2, hxi]⟩
              · have b0 := hno 0 (by omega)
                unfold badP at b0
                cases e0 : xs[0]? with
                | none =>
                  rw [List.getElem?_eq_none_iff] at e0
                  omega
                | some x0 =>
                  rw [e0] at b0
                  cases x0 with
                  | eat t g => exact ⟨t, g, rfl⟩
                  | non => cases b0
                  | lst => cases b0
            obtain ⟨tags0, G0, hx0⟩ := h0
            obtain ⟨u0, hu0, hxu0⟩ := paired_get (paired_same hx s13) hx0
            obtain ⟨e0, rfl, hE0, okw0⟩ := hxu0
            obtain ⟨dx2, a2, b2, f1, f2, f3⟩ := hE0
            refine ⟨_, rfl, p, _, _, _, rfl, rfl, SqL.of (s13 _ _ hp), atI_nat (j := 0) (v := V.ref e0) hu0, ?_⟩
            refine ⟨e0, dx2, _, rfl, f1, rfl, ?_⟩
            refine ⟨e0, tags0, _, rfl, ⟨dx2, a2, b2, f1, f2, f3⟩, fun p2 n2 => ?_⟩
            have t2 := same_new (o := .lst (vS tags0)) n2
            have w2 : WordAt (upd H3 p2 (.lst (vS tags0))) p2 tags0 := upd_same
            refine ne_wd (Same.word t2 w1) w2 okw okw0 ?_
            have hh : xs.head?.bind Prog.tags = some tags0 := by
              rw [List.head?_eq_getElem?, hx0]
              rfl
            rw [hh] at hbe
            refine ⟨_, rfl, ?_⟩
            by_cases et : tags = tags0
            · rw [decide_eq_true et]
              refine iteF ⟨_, _, rfl, s13.trans t2, fun j hj => ?_⟩
              rcases Nat.lt_or_ge j i with z | z
              · exact hno j z
              · have : j = i := by omega
                subst this
                rw [hbe, et]
                simp [Prog.tags]
            · rw [decide_eq_false et]
              refine iteT ?_
              refine ⟨_, rfl, (bad (.int (i : Int)) (by
                rw [first_at hi2 (by rw [hbe]; simp [Prog.tags, et]) hno]
                rfl) _ (s13.trans t2)).mk (K := K)⟩
        · rintro σ H1 ⟨v1, v2, rfl, s1, hno⟩
          exact q (by rw [first_none (fun i hi => hno i (by omega))]; rfl) H1 s1
      · rw [decide_eq_false (by omega)]
        refine iteT ?_
        exact (bad .non (if_neg hn) H (Same.refl H)).mk (K := K)
    · refine ⟨_, rfl, _, _, _, rfl, .inr ⟨nl, ?_⟩⟩
      refine ⟨_, rfl, ?_⟩
      refine iteT ?_
      exact bad.mk (K := K)
def spSameTagsX (CE CU : Addr) : Sp := fun vs H Q E => ∃ (e : Addr) (y : V) (tags : Word) (G : Form) (x : Prog), vs = [.ref e, y] ∧ EatAt CE H e tags G ∧ OkWord tags ∧ ProgV CE H y x ∧ (x.tags ≠ some tags → ∀ H1, Same H H1 → E (.ref CU) none H1) ∧ (x.tags = some tags → ∀ H', Same H H' → Q .non H')
theorem okx_check_same_tags (X : TX K mg) : FnOk P w K mg base (L2.CX P w) 2 X.d_check_same_tags.a X.d_check_same_tags.fd ["one", "other"] (spSameTagsX X.c_Eater X.e_UnlikeTags) := by
  have nd := sc_check_same_tags.nd
  refine X.d_check_same_tags.F.okX sc_check_same_tags (fun vs H Q E h => ?_) (fun cdv A outer s H vs Q E hr h => ?_)
  · obtain ⟨e, y, tags, G, x, rfl, _⟩ := h
    rfl
  · obtain ⟨e, y, tags, G, x, rfl, he, okw, hy, bad, q⟩ := h
    refine ⟨_, (pss_one (ps_if (PW.pt (pw_or (pt_not (pt_val (pe_callB (QB.call_isiK K) (by rfl) X.n_isinstance QB.bo_isinstance (pa_cons (pv 1) (pa_cons (pe_glob (v := .ref X.c_Eater) rfl X.m_Eater rfl) pa_nil))))) (pw_or1 (pt_cmpR (QB.op_neDK K hr.units) (pe_meth0 (pv 1) X.cl_Eater X.h_Eater_tags (ok_Eater_tags X) (hr.mono (by decide)) X.d_Eater_tags.b .nil pass0) (pe_meth0 (pv 0) X.cl_Eater X.h_Eater_tags (ok_Eater_tags X) (hr.mono (by decide)) X.d_Eater_tags.b .nil pass0) (nomark _))))) (pss_one (ps_raise rfl (takes_of rfl rfl rfl rfl) (QM2.pmk_own0 X.nx_UnlikeTags rfl X.me_UnlikeTags))) pss_nil)), ?_⟩
    try dsimp only [Cx.nox, Cx.wish, cxOf]
    obtain ⟨t, ty, kt⟩ := prog_ty (X := X) hy
    refine ⟨_, rfl, ?_⟩
    dsimp only [tNil, tCons]
    refine ⟨_, _, _, _, _, rfl, .own _, ty, kt, _, rfl, ?_⟩
    cases x with
    | non =>
      refine iteT ?_
      refine iteT ?_
      exact bad (fun z => nomatch z) H (Same.refl H)
    | lst =>
      refine iteT ?_
      refine iteT ?_
      exact bad (fun z => nomatch z) H (Same.refl H)
    | eat tags2 G2 =>
      refine iteF ?_
      obtain ⟨f, rfl, hf, okw2⟩ := hy
      obtain ⟨dx, a1, b1, g1, g2, g3⟩ := he
      obtain ⟨dx2, a2, b2, f1, f2, f3⟩ := hf
      refine ⟨_, rfl, f, dx2, _, rfl, f1, rfl, ?_⟩
      refine ⟨f, tags2, G2, rfl, ⟨dx2, a2, b2, f1, f2, f3⟩, fun p1 n1 => ?_⟩
      have s1 := same_new (o := .lst (vS tags2)) n1
      have w1 : WordAt (upd H p1 (.lst (vS tags2))) p1 tags2 := upd_same
      generalize upd H p1 (.lst (vS tags2)) = H1 at s1 w1 ⊢
      refine ⟨_, rfl, e, dx, _, rfl, s1 _ _ g1, rfl, ?_⟩
      refine ⟨e, tags, G, rfl, ⟨dx, a1, b1, s1 _ _ g1, Same.word s1 g2, Same.form s1 g3⟩, fun p2 n2 => ?_⟩
      have s2 := same_new (o := .lst (vS tags)) n2
      have w2 : WordAt (upd H1 p2 (.lst (vS tags))) p2 tags := upd_same
      refine ne_wd (Same.word s2 w1) w2 okw2 okw ?_
      refine ⟨_, rfl, ?_⟩
      by_cases et : tags2 = tags
      · rw [decide_eq_true et]
        exact iteF (q (congrArg some et) _ (s1.trans s2))
      · rw [decide_eq_false et]
        refine iteT ?_
        exact bad (fun z => et (Option.some.inj z)) _ (s1.trans s2)
/-- a mailbox made out of anything -/
def spInitX (CE CM CP CU : Addr) : Sp := fun vs H Q E => ∃ (x dx : Addr) (v y : V) (r : Prog), vs = [.ref x, v, y] ∧ H x = some (.ins CM dx []) ∧ ProgV CE H y r ∧
  ((∃ p us xs, v = .ref p ∧ H p = some (.lst us) ∧ Paired (ProgV CE H) us xs ∧ xs.length ≤ 1000 ∧ (∀ iv, progDue xs = some iv → ∀ H1, Same H H1 → Bad CP "index" iv H1 E) ∧
      (progDue xs = none → (r.tags ≠ xs.head?.bind Prog.tags → ∀ H1, Same H H1 → E (.ref CU) none H1) ∧ (r.tags = xs.head?.bind Prog.tags → ∀ H', Exc [x] H H' → Q .non H'))) ∨
   (NoList H v ∧ Bad CP "index" .non H E))
theorem okx_Mailbox___init__ (X : TX K mg) : FnOk P w K mg base (L2.CX P w) 4 X.d_Mailbox___init__.a X.d_Mailbox___init__.fd ["self", "programs", "key"] (spInitX X.c_Eater X.c_Mailbox X.e_InvalidPrograms X.e_UnlikeTags) := by
  have nd := sc_Mailbox___init__.nd
  refine X.d_Mailbox___init__.F.okX sc_Mailbox___init__ (fun vs H Q E h => ?_) (fun cdv A outer s H vs Q E hr h => ?_)
  · obtain ⟨x, dx, v, y, r, rfl, _⟩ := h
    rfl
  · obtain ⟨x, dx, v, y, r, rfl, hx, hy, k⟩ := h
    refine ⟨_, (pss_cons (ps_expr (pe_call (okx_check_programs X) (hr.mono (by decide)) rfl X.d_check_programs.mg X.d_check_programs.F.kp X.d_check_programs.b .nil (passes_call (takes_of rfl rfl rfl rfl) (fun _ _ _ _ h => h)) (pa_cons (pv 1) pa_nil))) (pss_cons (ps_expr (pe_call (okx_check_same_tags X) (hr.mono (by decide)) rfl X.d_check_same_tags.mg X.d_check_same_tags.F.kp X.d_check_same_tags.b .nil (passes_call (takes_of rfl rfl rfl rfl) (fun _ _ _ _ h => h)) (pa_cons (pe_ix (QB.ix_listK K) (pv 1) pe_int (fun _ _ => rfl)) (pa_cons (pv 2) pa_nil)))) (pss_cons (ps_fld (pv 0) (pe_callTy (QB.call_listK K) (by rfl) X.n_list QB.bo_list (pa_cons (pv 1) pa_nil)) rfl) (pss_cons (ps_fld (pv 0) (pv 2) rfl) (pss_one (ps_fld (pv 0) (pe_lst pa_nil) rfl)))))), ?_⟩
    try dsimp only [Cx.nox, Cx.wish, cxOf]
    rcases k with ⟨p, us, xs, rfl, hp, hxs, hl, bad, q⟩ | ⟨nl, bad⟩
    · refine ⟨_, rfl, _, rfl, .inl ⟨p, us, xs, rfl, hp, hxs, hl, bad, fun hd H1 s1 => ?_⟩⟩
      obtain ⟨q1, q2⟩ := q hd
      have hn : 1 ≤ xs.length ∧ xs.length ≤ 6 := by
        unfold progDue at hd
        by_cases z : 1 ≤ xs.length ∧ xs.length ≤ 6
        · exact z
        · rw [if_neg z] at hd
          cases hd
      have hb0 : badP xs 0 = false := by
        unfold progDue at hd
        rw [if_pos hn] at hd
        exact firstBad_none hd 0 (by omega)
      obtain ⟨tags, G, hx0⟩ : ∃ tags G, xs[0]? = some (.eat tags G) := by
        unfold badP at hb0
        cases e0 : xs[0]? with
        | none =>
          rw [List.getElem?_eq_none_iff] at e0
          omega
        | some x0 =>
          rw [e0] at hb0
          cases x0 with
          | eat t g => exact ⟨t, g, rfl⟩
          | non => cases hb0
          | lst => cases hb0
      have hh : xs.head?.bind Prog.tags = some tags := by
        rw [List.head?_eq_getElem?, hx0]
        rfl
      rw [hh] at q1 q2
      obtain ⟨u0, hu0, hxu0⟩ := paired_get (paired_same hxs s1) hx0
      obtain ⟨e0, rfl, hE0, okw⟩ := hxu0
      refine ⟨_, rfl, _, _, _, _, rfl, rfl, SqL.of (s1 _ _ hp), atI_nat (j := 0) hu0, ?_⟩
      refine ⟨_, rfl, e0, y, tags, G, r, rfl, hE0, okw, hy.same s1, fun ne H2 s2 => q1 ne H2 (s1.trans s2), fun eq H2 s2 => ?_⟩
      have s12 := s1.trans s2
      refine ⟨_, rfl, ?_⟩
      dsimp only [tNil]
      refine ⟨_, _, rfl, .inl (SqL.of (s12 _ _ hp)), fun pl npl => ?_⟩
      have s3 : Same H2 (upd H2 pl (.lst us)) := same_new npl
      have s13 := s12.trans s3
      have hx3 := s13 _ _ hx
      generalize upd H2 pl (.lst us) = H3 at s3 s13 hx3 ⊢
      refine ⟨_, rfl, x, _, _, _, rfl, hx3, X.cl_Mailbox, X.na_Mailbox__programs, by decide, ?_⟩
      refine ⟨_, rfl, ?_⟩
      refine ⟨_, rfl, x, _, _, _, rfl, upd_same, X.cl_Mailbox, X.na_Mailbox__key, by show (1 : Nat) < 1000; omega, ?_⟩
      refine ⟨by show 0 ≤ sizeLine; decide, fun ll nll => ?_⟩
      have ll_x : ll ≠ x := fun z => by
        subst z
        rw [upd_same] at nll
        cases nll
      have nll3 : H3 ll = none := by
        rw [upd_ne ll_x, upd_ne ll_x] at nll
        exact nll
      refine ⟨_, rfl, x, _, _, _, rfl, (upd_ne (Ne.symm ll_x)).trans upd_same, X.cl_Mailbox, X.na_Mailbox__letters, by show (2 : Nat) < 1000; omega, ?_⟩
      refine q2 eq _ (fun a o n h => ?_)
      have ax : a ≠ x := by simpa using n
      have ha3 := s13 _ _ h
      have a_ll : a ≠ ll := fun z => by
        rw [z, nll3] at ha3
        cases ha3
      rw [upd_ne ax, upd_ne a_ll, upd_ne ax, upd_ne ax]
      exact ha3
    · exact ⟨_, rfl, _, rfl, .inr ⟨nl, bad⟩⟩
end
end Law
end

section
set_option Elab.async false
set_option linter.all false
set_option maxRecDepth 100000
set_option maxHeartbeats 4000000
namespace Law
open PySem PySem.Spec PyProof.Rows L2 LamX QB QM QV
theorem look1 (f : Str) (v : V) : List.lookup f [(f, v)] = some v := by simp [List.lookup]
theorem ne_way {i j : Int} (h : i ≠ j) : decide (V.int i = V.int j) = false := decide_eq_false fun e => h (V.int.inj e)
/-- how an ask ends -/
inductive Out
  | let_
  | number (v : V)
  | subject (v : V)
  | programs (v : V)
  | many
  | unlike
def outL : Out → List V
  | .let_ => [.str "let"]
  | .number v => [.str "number", v]
  | .subject v => [.str "subject", v]
  | .programs v => [.str "programs", v]
  | .many => [.str "many", .int 200]
  | .unlike => [.str "unlike"]
theorem beginX_imp {CE CM CS : Addr} {vs : List V} {H : Hp} {Q Q' : VK} {E : XK} (h : spBeginX CE CM CS vs H Q E) (k : ∀ v H', Q v H' → Q' v H') : spBeginX CE CM CS vs H Q' E := by
  obtain ⟨M, m, ll, tags, Gs, Gk, ws, v, d, e, a1, a2, a3, a4, a5, a6, a7, a8⟩ := h
  exact ⟨M, m, ll, tags, Gs, Gk, ws, v, d, e, a1, a2, a3, a4, a5, a6, a7, fun z a wd e1 e2 H' b x n => k _ _ (a8 z a wd e1 e2 H' b x n)⟩
theorem answX_imp {CE CM CN CT : Addr} {R : List Addr → Hp → Addr → Addr → Word → List Form → Form → List Word → Nat → Nat → VK → Prop} {vs : List V} {H : Hp} {Q Q' : VK} {E : XK}
    (r : ∀ {M H m ll tags Gs Gk ws i j}, (∀ v H', Q v H' → Q' v H') → R M H m ll tags Gs Gk ws i j Q → R M H m ll tags Gs Gk ws i j Q') (h : spAnswX CE CM CN CT R vs H Q E) (k : ∀ v H', Q v H' → Q' v H') : spAnswX CE CM CN CT R vs H Q' E := by
  obtain ⟨M, m, ll, tags, Gs, Gk, ws, v, y, d, dy, e, a1, a2, a3, a4, a5, a6, a7, a8, a9, a10⟩ := h
  exact ⟨M, m, ll, tags, Gs, Gk, ws, v, y, d, dy, e, a1, a2, a3, a4, a5, a6, a7, a8, a9, fun i j e1 e2 h1 h2 => ⟨(a10 i j e1 e2 h1 h2).1, fun z => r k ((a10 i j e1 e2 h1 h2).2 z)⟩⟩
theorem getX_imp {CE CM CN : Addr} {R : Hp → List Word → Nat → Word → List Form → Form → VK → Prop} {vs : List V} {H : Hp} {Q Q' : VK} {E : XK}
    (r : ∀ {H ws i tags Gs Gk}, (∀ v H', Q v H' → Q' v H') → R H ws i tags Gs Gk Q → R H ws i tags Gs Gk Q') (h : spGetX CE CM CN R vs H Q E) (k : ∀ v H', Q v H' → Q' v H') : spGetX CE CM CN R vs H Q' E := by
  obtain ⟨M, m, ll, tags, Gs, Gk, ws, v, d, e, a1, a2, a3, a4, a5, a6, a7⟩ := h
  exact ⟨M, m, ll, tags, Gs, Gk, ws, v, d, e, a1, a2, a3, a4, a5, a6, fun i e1 h1 z => r k (a7 i e1 h1 z)⟩
theorem initX_imp {CE CM CP CU : Addr} {vs : List V} {H : Hp} {Q Q' : VK} {E : XK} (h : spInitX CE CM CP CU vs H Q E) (k : ∀ v H', Q v H' → Q' v H') : spInitX CE CM CP CU vs H Q' E := by
  obtain ⟨x, dx, v, y, r, e, a1, a2, h⟩ := h
  refine ⟨x, dx, v, y, r, e, a1, a2, ?_⟩
  rcases h with ⟨p, us, xs, b1, b2, b3, b4, b5, b6⟩ | h
  · exact .inl ⟨p, us, xs, b1, b2, b3, b4, b5, fun z => ⟨(b6 z).1, fun z2 H' x => k _ _ ((b6 z).2 z2 H' x)⟩⟩
  · exact .inr h
section
variable {P : Program} {w : World} {K : PySem.W.Frag} {mg : Str → Option Value} {base : Heap}
def BadO (X : TX K mg) (o : Out) (H : Hp) (E : XK) : Prop := match o with
  | .let_ => True
  | .number v => Bad X.e_InvalidNumber "number" v H E
  | .subject v => Bad X.e_InvalidSubject "index" v H E
  | .programs v => Bad X.e_InvalidPrograms "index" v H E
  | .many => Bad X.e_TooMany "limit" (.int 200) H E
  | .unlike => E (.ref X.e_UnlikeTags) none H
/-- what a deed asks of its callee -/
def DoneW (X : TX K mg) (way : Nat) (m : Addr) (one other : V) (H : Hp) (R : VK) (E : XK) : Prop :=
  (way = 0 ∧ spBeginX X.c_Eater X.c_Mailbox X.e_InvalidSubject [.ref m, one] H R E) ∨
  (way = 1 ∧ spAnswX X.c_Eater X.c_Mailbox X.e_InvalidNumber X.e_TooMany (fun M H m ll tags Gs Gk ws i j Q => Came X.c_Eater X.c_Mailbox M H m ll tags Gs Gk ws (ansOf tags Gs ws i j) Q) [.ref m, one, other] H R E) ∨
  (way = 2 ∧ spAnswX X.c_Eater X.c_Mailbox X.e_InvalidNumber X.e_TooMany (fun M H m ll tags Gs Gk ws i j Q => ∀ p H', Same H H' → Q (.ref p) H') [.ref m, one, other] H R E) ∨
  (way = 3 ∧ spGetX X.c_Eater X.c_Mailbox X.e_InvalidNumber (fun H ws i _ _ _ Q => ∀ p H', Same H H' → H p = none → WordAt H' p (ws.getD i []) → Q (.ref p) H') [.ref m, one] H R E) ∨
  (way = 4 ∧ spGetX X.c_Eater X.c_Mailbox X.e_InvalidNumber (fun H ws i tags _ Gk Q => ∀ p H', Same H H' → H p = none → WordAt H' p ((boxKeys tags Gk ws).getD i []) → Q (.ref p) H') [.ref m, one] H R E) ∨
  (way = 5 ∧ spGetX X.c_Eater X.c_Mailbox X.e_InvalidNumber (fun H ws i tags _ Gk Q => ∀ p H', Same H H' → H p = none → H' p = some (.lst (vN (withKey (boxKeys tags Gk ws) ws.length ((boxKeys tags Gk ws).getD i [])))) → Q (.ref p) H') [.ref m, one] H R E) ∨
  (way = 6 ∧ ∀ x dx, H x = none → H dx = none → dx ≠ x → spInitX X.c_Eater X.c_Mailbox X.e_InvalidPrograms X.e_UnlikeTags [.ref x, one, other] (upd (upd H dx (.own x)) x (.ins X.c_Mailbox dx [])) (fun v H2 => v = .non ∧ R (.ref x) H2) E)
def spDoneX (X : TX K mg) : Sp := fun vs H Q E => ∃ (way : Nat) (m dx pl ke ll : Addr) (one other : V), vs = [.int (way : Int), .ref m, one, other] ∧ H m = some (.ins X.c_Mailbox dx (boxFs pl ke ll)) ∧
  DoneW X way m one other H (fun _ H' => ∀ p xs, H' p = none → Q (.ref p) (upd H' p (.lst xs))) E
theorem okx__law_done (X : TX K mg) : FnOk P w K mg base (L2.CX P w) 7 X.d__law_done.a X.d__law_done.fd ["way", "mailbox", "one", "other"] (spDoneX X) := by
  have nd := sc__law_done.nd
  refine X.d__law_done.F.okX sc__law_done (fun vs H Q E h => ?_) (fun cdv A outer s0 H vs Q E hr h => ?_)
  · obtain ⟨way, m, dx, pl, ke, ll, one, other, rfl, _⟩ := h
    rfl
  · obtain ⟨way, m, dx, pl, ke, ll, one, other, rfl, ho, h⟩ := h
    refine ⟨_, (pss_cons (ps_if (pt_cmpR op_eq (pv 0) pe_int (nomark _)) (pss_one (ps_expr (pe_meth (pv 1) X.cl_Mailbox X.h_Mailbox_begin (okx_Mailbox_begin X) (hr.mono (by decide)) X.d_Mailbox_begin.b .nil (passes_call (takes_of rfl rfl rfl rfl) (fun _ _ _ _ h => h)) (pa_cons (pv 2) pa_nil)))) pss_nil) (pss_cons (ps_if (pt_cmpR op_eq (pv 0) pe_int (nomark _)) (pss_one (ps_expr (pe_meth (pv 1) X.cl_Mailbox X.h_Mailbox_answer (okx_Mailbox_answer X) (hr.mono (by decide)) X.d_Mailbox_answer.b .nil (passes_call (takes_of rfl rfl rfl rfl) (fun _ _ _ _ h => h)) (pa_cons (pv 2) (pa_cons (pv 3) pa_nil))))) pss_nil) (pss_cons (ps_if (pt_cmpR op_eq (pv 0) pe_int (nomark _)) (pss_one (ps_ret (pe_lst (pa_cons (pe_meth (pv 1) X.cl_Mailbox X.h_Mailbox_tried (okx_Mailbox_tried X) (hr.mono (by decide)) X.d_Mailbox_tried.b .nil (passes_call (takes_of rfl rfl rfl rfl) (fun _ _ _ _ h => h)) (pa_cons (pv 2) (pa_cons (pv 3) pa_nil))) pa_nil)))) pss_nil) (pss_cons (ps_if (pt_cmpR op_eq (pv 0) pe_int (nomark _)) (pss_one (ps_ret (pe_lst (pa_cons (QM2.pe_ixO (okx_Mailbox___getitem__ X) X.h_Mailbox___getitem__ (QM2.fn_of X.d_Mailbox___getitem__.F) (hr.mono (by decide)) X.d_Mailbox___getitem__.b (passes_call (takes_of rfl rfl rfl rfl) (fun _ _ _ _ h => h)) (pv 1) (pv 2) (fun _ _ => by with_unfolding_all rfl)) pa_nil)))) pss_nil) (pss_cons (ps_if (pt_cmpR op_eq (pv 0) pe_int (nomark _)) (pss_one (ps_ret (pe_lst (pa_cons (pe_meth (pv 1) X.cl_Mailbox X.h_Mailbox_key_of (okx_Mailbox_key_of X) (hr.mono (by decide)) X.d_Mailbox_key_of.b .nil (passes_call (takes_of rfl rfl rfl rfl) (fun _ _ _ _ h => h)) (pa_cons (pv 2) pa_nil)) pa_nil)))) pss_nil) (pss_cons (ps_if (pt_cmpR op_eq (pv 0) pe_int (nomark _)) (pss_one (ps_ret (pe_lst (pa_cons (pe_meth (pv 1) X.cl_Mailbox X.h_Mailbox_talk (okx_Mailbox_talk X) (hr.mono (by decide)) X.d_Mailbox_talk.b .nil (passes_call (takes_of rfl rfl rfl rfl) (fun _ _ _ _ h => h)) (pa_cons (pv 2) pa_nil)) pa_nil)))) pss_nil) (pss_cons (ps_if (pt_cmpR op_eq (pv 0) pe_int (nomark _)) (pss_one (ps_expr (pe_make X.mk_Mailbox (okx_Mailbox___init__ X) (hr.mono (by decide)) rfl X.m_Mailbox X.d_Mailbox___init__.b .nil (passes_call (takes_of rfl rfl rfl rfl) (fun _ _ _ _ h => h)) (pa_cons (pv 2) (pa_cons (pv 3) pa_nil))))) pss_nil) (pss_one (ps_ret (pe_lst pa_nil)))))))))), ?_⟩
    try dsimp only [Cx.nox, Cx.wish, cxOf]
    rcases h with ⟨rfl, h⟩ | ⟨rfl, h⟩ | ⟨rfl, h⟩ | ⟨rfl, h⟩ | ⟨rfl, h⟩ | ⟨rfl, h⟩ | ⟨rfl, h⟩
    · refine ⟨_, rfl, rfl, _, rfl, ?_⟩
      rw [decide_eq_true (show V.int (((0 : Nat)) : Int) = V.int 0 from rfl)]
      refine iteT ?_
      refine ⟨_, rfl, m, dx, _, rfl, ho, rfl, ?_⟩
      refine ⟨_, rfl, ?_⟩
      try dsimp only [tNil]
      refine beginX_imp h fun v H1 z => ?_
      refine ⟨_, rfl, rfl, _, rfl, ?_⟩
      rw [ne_way (by decide)]
      refine iteF ?_
      refine ⟨_, rfl, rfl, _, rfl, ?_⟩
      rw [ne_way (by decide)]
      refine iteF ?_
      refine ⟨_, rfl, rfl, _, rfl, ?_⟩
      rw [ne_way (by decide)]
      refine iteF ?_
      refine ⟨_, rfl, rfl, _, rfl, ?_⟩
      rw [ne_way (by decide)]
      refine iteF ?_
      refine ⟨_, rfl, rfl, _, rfl, ?_⟩
      rw [ne_way (by decide)]
      refine iteF ?_
      refine ⟨_, rfl, rfl, _, rfl, ?_⟩
      rw [ne_way (by decide)]
      refine iteF ?_
      exact ⟨by show 0 ≤ sizeLine; decide, fun p np => z p [] np⟩
    · refine ⟨_, rfl, rfl, _, rfl, ?_⟩
      rw [ne_way (by decide)]
      refine iteF ?_
      refine ⟨_, rfl, rfl, _, rfl, ?_⟩
      rw [decide_eq_true (show V.int (((1 : Nat)) : Int) = V.int 1 from rfl)]
      refine iteT ?_
      refine ⟨_, rfl, m, dx, _, rfl, ho, rfl, ?_⟩
      refine ⟨_, rfl, _, rfl, ?_⟩
      try dsimp only [tNil]
      refine answX_imp (R := fun M H m ll tags Gs Gk ws i j Q => Came X.c_Eater X.c_Mailbox M H m ll tags Gs Gk ws (ansOf tags Gs ws i j) Q) (fun k c H' b x n => k _ _ (c H' b x n)) h fun v H1 z => ?_
      refine ⟨_, rfl, rfl, _, rfl, ?_⟩
      rw [ne_way (by decide)]
      refine iteF ?_
      refine ⟨_, rfl, rfl, _, rfl, ?_⟩
      rw [ne_way (by decide)]
      refine iteF ?_
      refine ⟨_, rfl, rfl, _, rfl, ?_⟩
      rw [ne_way (by decide)]
      refine iteF ?_
      refine ⟨_, rfl, rfl, _, rfl, ?_⟩
      rw [ne_way (by decide)]
      refine iteF ?_
      refine ⟨_, rfl, rfl, _, rfl, ?_⟩
      rw [ne_way (by decide)]
      refine iteF ?_
      exact ⟨by show 0 ≤ sizeLine; decide, fun p np => z p [] np⟩
    · refine ⟨_, rfl, rfl, _, rfl, ?_⟩
      rw [ne_way (by decide)]
      refine iteF ?_
      refine ⟨_, rfl, rfl, _, rfl, ?_⟩
      rw [ne_way (by decide)]
      refine iteF ?_
      refine ⟨_, rfl, rfl, _, rfl, ?_⟩
      rw [decide_eq_true (show V.int (((2 : Nat)) : Int) = V.int 2 from rfl)]
      refine iteT ?_
      refine ⟨_, rfl, m, dx, _, rfl, ho, rfl, ?_⟩
      refine ⟨_, rfl, _, rfl, ?_⟩
      try dsimp only [tNil]
      refine answX_imp (R := fun M H m ll tags Gs Gk ws i j Q => ∀ p H', Same H H' → Q (.ref p) H') (fun k c p H' s => k _ _ (c p H' s)) h fun v H1 z => ?_
      exact ⟨by show 1 ≤ sizeLine; decide, fun p np => z p _ np⟩
    · refine ⟨_, rfl, rfl, _, rfl, ?_⟩
      rw [ne_way (by decide)]
      refine iteF ?_
      refine ⟨_, rfl, rfl, _, rfl, ?_⟩
      rw [ne_way (by decide)]
      refine iteF ?_
      refine ⟨_, rfl, rfl, _, rfl, ?_⟩
      rw [ne_way (by decide)]
      refine iteF ?_
      refine ⟨_, rfl, rfl, _, rfl, ?_⟩
      rw [decide_eq_true (show V.int (((3 : Nat)) : Int) = V.int 3 from rfl)]
      refine iteT ?_
      refine ⟨_, rfl, _, rfl, m, dx, _, rfl, ho, ?_⟩
      try dsimp only [tNil]
      refine getX_imp (R := fun H ws i _ _ _ Q => ∀ p H', Same H H' → H p = none → WordAt H' p (ws.getD i []) → Q (.ref p) H') (fun k c p H' s n a => k _ _ (c p H' s n a)) h fun v H1 z => ?_
      exact ⟨by show 1 ≤ sizeLine; decide, fun p np => z p _ np⟩
    · refine ⟨_, rfl, rfl, _, rfl, ?_⟩
      rw [ne_way (by decide)]
      refine iteF ?_
      refine ⟨_, rfl, rfl, _, rfl, ?_⟩
      rw [ne_way (by decide)]
      refine iteF ?_
      refine ⟨_, rfl, rfl, _, rfl, ?_⟩
      rw [ne_way (by decide)]
      refine iteF ?_
      refine ⟨_, rfl, rfl, _, rfl, ?_⟩
      rw [ne_way (by decide)]
      refine iteF ?_
      refine ⟨_, rfl, rfl, _, rfl, ?_⟩
      rw [decide_eq_true (show V.int (((4 : Nat)) : Int) = V.int 4 from rfl)]
      refine iteT ?_
      refine ⟨_, rfl, m, dx, _, rfl, ho, rfl, ?_⟩
      refine ⟨_, rfl, ?_⟩
      try dsimp only [tNil]
      refine getX_imp (R := fun H ws i tags _ Gk Q => ∀ p H', Same H H' → H p = none → WordAt H' p ((boxKeys tags Gk ws).getD i []) → Q (.ref p) H') (fun k c p H' s n a => k _ _ (c p H' s n a)) h fun v H1 z => ?_
      exact ⟨by show 1 ≤ sizeLine; decide, fun p np => z p _ np⟩
    · refine ⟨_, rfl, rfl, _, rfl, ?_⟩
      rw [ne_way (by decide)]
      refine iteF ?_
      refine ⟨_, rfl, rfl, _, rfl, ?_⟩
      rw [ne_way (by decide)]
      refine iteF ?_
      refine ⟨_, rfl, rfl, _, rfl, ?_⟩
      rw [ne_way (by decide)]
      refine iteF ?_
      refine ⟨_, rfl, rfl, _, rfl, ?_⟩
      rw [ne_way (by decide)]
      refine iteF ?_
      refine ⟨_, rfl, rfl, _, rfl, ?_⟩
      rw [ne_way (by decide)]
      refine iteF ?_
      refine ⟨_, rfl, rfl, _, rfl, ?_⟩
      rw [decide_eq_true (show V.int (((5 : Nat)) : Int) = V.int 5 from rfl)]
      refine iteT ?_
      refine ⟨_, rfl, m, dx, _, rfl, ho, rfl, ?_⟩
      refine ⟨_, rfl, ?_⟩
      try dsimp only [tNil]
      refine getX_imp (R := fun H ws i tags _ Gk Q => ∀ p H', Same H H' → H p = none → H' p = some (.lst (vN (withKey (boxKeys tags Gk ws) ws.length ((boxKeys tags Gk ws).getD i [])))) → Q (.ref p) H') (fun k c p H' s n a => k _ _ (c p H' s n a)) h fun v H1 z => ?_
      exact ⟨by show 1 ≤ sizeLine; decide, fun p np => z p _ np⟩
    · refine ⟨_, rfl, rfl, _, rfl, ?_⟩
      rw [ne_way (by decide)]
      refine iteF ?_
      refine ⟨_, rfl, rfl, _, rfl, ?_⟩
      rw [ne_way (by decide)]
      refine iteF ?_
      refine ⟨_, rfl, rfl, _, rfl, ?_⟩
      rw [ne_way (by decide)]
      refine iteF ?_
      refine ⟨_, rfl, rfl, _, rfl, ?_⟩
      rw [ne_way (by decide)]
      refine iteF ?_
      refine ⟨_, rfl, rfl, _, rfl, ?_⟩
      rw [ne_way (by decide)]
      refine iteF ?_
      refine ⟨_, rfl, rfl, _, rfl, ?_⟩
      rw [ne_way (by decide)]
      refine iteF ?_
      refine ⟨_, rfl, rfl, _, rfl, ?_⟩
      rw [decide_eq_true (show V.int (((6 : Nat)) : Int) = V.int 6 from rfl)]
      refine iteT ?_
      refine ⟨_, rfl, _, rfl, fun x dx2 h1 h2 h3 => ?_⟩
      refine initX_imp (h x dx2 h1 h2 h3) fun v H1 z => ⟨z.1, ?_⟩
      exact ⟨by show 0 ≤ sizeLine; decide, fun p np => z.2 p [] np⟩
def spToldO (X : TX K mg) : Sp := fun vs H Q _ => ∃ (way : Nat) (m dx pl ke ll : Addr) (one other : V) (o : Out) (Rl : Hp → Prop), vs = [.int (way : Int), .ref m, one, other] ∧ H m = some (.ins X.c_Mailbox dx (boxFs pl ke ll)) ∧
  (∀ (R : VK) (E : XK), (∀ H1, Same H H1 → BadO X o H1 E) → (o = .let_ → ∀ v H', Rl H' → R v H') → DoneW X way m one other H R E) ∧
  (o ≠ .let_ → ∀ p H', Same H H' → H p = none → H' p = some (.lst (outL o)) → Q (.ref p) H') ∧ (o = .let_ → ∀ p H1 H', Rl H1 → Same H1 H' → H1 p = none → H' p = some (.lst (outL o)) → Q (.ref p) H')
theorem ok__law_told (X : TX K mg) : FnOk P w K mg base CX0 8 X.d__law_told.a X.d__law_told.fd ["way", "mailbox", "one", "other"] (spToldO X) := by
  have nd := sc__law_told.nd
  refine X.d__law_told.F.ok sc__law_told (fun vs H Q E h => ?_) (fun cdv A outer s0 H vs Q E hr h => ?_)
  · obtain ⟨way, m, dx, pl, ke, ll, one, other, o, Rl, rfl, _⟩ := h
    rfl
  · obtain ⟨way, m, dx, pl, ke, ll, one, other, o, Rl, rfl, ho, hd, q1, q2⟩ := h
    refine ⟨_, (pss_cons (ps_set (i := 4) nd rfl (Or.inl rfl) pe_non) (pss_cons (QX.ps_try_keep (i := 5) (Wout := fun _ _ _ _ => False) rfl rfl rfl nd rfl rfl ⟨rfl, by decide, Or.inl X.me_TagError⟩ L2.takes0 (fun W pn xe tk po => (pss_one (ps_expr (pe_callS (okx__law_done X) (hr.mono (by decide)) rfl X.d__law_done.mg X.d__law_done.F.kp X.d__law_done.b (fun σ => passAt tk σ) (pa_cons (pv 0) (pa_cons (pv 1) (pa_cons (pv 2) (pa_cons (pv 3) pa_nil)))))))) (fun a oe cls d pn hz hf => (pss_one (ps_set (i := 4) nd rfl (Or.inl rfl) (pv 5))))) (pss_cons (ps_if (pt_cmpR op_isN (pv 4) pe_non (nomark _)) (pss_one (ps_ret (pe_lst (pa_cons pe_str pa_nil)))) pss_nil) (pss_cons (ps_if (PW.pt (pw_or (pt_val (pe_callB (QX.call_isXK K) (by rfl) X.n_isinstance QB.bo_isinstance (pa_cons (pv 4) (pa_cons (pe_glob (v := .ref X.e_InvalidStarts) rfl X.me_InvalidStarts rfl) pa_nil)))) (pw_or1 (pt_not (pt_val (pe_callB (QX.call_isXK K) (by rfl) X.n_isinstance QB.bo_isinstance (pa_cons (pv 4) (pa_cons (pe_bltn (v := .ty "ValueError") (by rfl) X.n_ValueError PyProof.Rows.Boot.«ValueError» rfl) pa_nil)))))))) (pss_one (ps_ret (pe_lst (pa_cons pe_str pa_nil)))) pss_nil) (pss_cons (ps_if (pt_val (pe_callB (QX.call_isXK K) (by rfl) X.n_isinstance QB.bo_isinstance (pa_cons (pv 4) (pa_cons (pe_glob (v := .ref X.e_InvalidNumber) rfl X.me_InvalidNumber rfl) pa_nil)))) (pss_one (ps_ret (pe_lst (pa_cons pe_str (pa_cons (QX.pe_fxK K (pv 4) rfl) pa_nil))))) pss_nil) (pss_cons (ps_if (pt_val (pe_callB (QX.call_isXK K) (by rfl) X.n_isinstance QB.bo_isinstance (pa_cons (pv 4) (pa_cons (pe_glob (v := .ref X.e_InvalidSubject) rfl X.me_InvalidSubject rfl) pa_nil)))) (pss_one (ps_ret (pe_lst (pa_cons pe_str (pa_cons (QX.pe_fxK K (pv 4) rfl) pa_nil))))) pss_nil) (pss_cons (ps_if (pt_val (pe_callB (QX.call_isXK K) (by rfl) X.n_isinstance QB.bo_isinstance (pa_cons (pv 4) (pa_cons (pe_glob (v := .ref X.e_InvalidPrograms) rfl X.me_InvalidPrograms rfl) pa_nil)))) (pss_one (ps_ret (pe_lst (pa_cons pe_str (pa_cons (QX.pe_fxK K (pv 4) rfl) pa_nil))))) pss_nil) (pss_cons (ps_if (pt_val (pe_callB (QX.call_isXK K) (by rfl) X.n_isinstance QB.bo_isinstance (pa_cons (pv 4) (pa_cons (pe_glob (v := .ref X.e_UnlikeTags) rfl X.me_UnlikeTags rfl) pa_nil)))) (pss_one (ps_ret (pe_lst (pa_cons pe_str pa_nil)))) pss_nil) (pss_one (ps_ret (pe_lst (pa_cons pe_str (pa_cons (pe_and (pe_callB (QX.call_isXK K) (by rfl) X.n_isinstance QB.bo_isinstance (pa_cons (pv 4) (pa_cons (pe_glob (v := .ref X.e_TooMany) rfl X.me_TooMany rfl) pa_nil))) (pe_one (QX.pe_fxK K (pv 4) rfl))) pa_nil))))))))))))), ?_⟩
    try dsimp only [Cx.nox, Cx.wish, cxOf]
    refine ⟨_, rfl, _, rfl, _, rfl, _, rfl, way, m, dx, pl, ke, ll, one, other, rfl, ho, hd _ _ (fun H0 s0 => ?_) fun eo v H1 rl => ?_⟩
    · cases o with
      | let_ => trivial
      | number iv =>
        refine fun dd H1 s1 h1 n1 => ?_
        refine ⟨true, X.ex_InvalidNumber, fun q => Bool.noConfusion q, fun _ a ha => ⟨_, rfl, ?_⟩⟩
        have hk : (upd H1 a (QX.Kept (.ref X.e_InvalidNumber) (some dd) a)) a = some (QX.Kept (.ref X.e_InvalidNumber) (some dd) a) := upd_same
        have hx := (same_new (o := QX.Kept (.ref X.e_InvalidNumber) (some dd) a) ha) _ _ h1
        have s2 := (s0.trans s1).trans (same_new (o := QX.Kept (.ref X.e_InvalidNumber) (some dd) a) ha)
        refine ⟨_, rfl, rfl, _, rfl, ?_⟩
        rw [decide_eq_false (fun e => nomatch e)]
        refine iteF ?_
        refine ⟨_, rfl, a, _, some dd, _, _, false, rfl, hk, .inr ⟨dd, _, rfl, hx⟩, X.xt_InvalidNumber.exc, .own _, X.ki_InvalidNumber_InvalidStarts, false, rfl, ?_⟩
        refine iteF ?_
        refine ⟨_, rfl, a, _, some dd, _, _, true, rfl, hk, .inr ⟨dd, _, rfl, hx⟩, X.xt_InvalidNumber.exc, .ty "ValueError", X.kv_InvalidNumber, true, rfl, ?_⟩
        refine iteF ?_
        refine ⟨_, rfl, a, _, some dd, _, _, true, rfl, hk, .inr ⟨dd, _, rfl, hx⟩, X.xt_InvalidNumber.exc, .own _, X.ki_InvalidNumber_InvalidNumber, true, rfl, ?_⟩
        refine iteT ?_
        refine ⟨_, rfl, a, _, dd, _, iv, rfl, hk, X.xt_InvalidNumber.xf, X.xt_InvalidNumber.noF, hx, look1 _ _, by show 2 ≤ sizeLine; decide, fun p hp => ?_⟩
        exact q1 (fun z => nomatch z) p _ (s2.trans (same_new hp)) (s2.free hp) upd_same
      | subject iv =>
        refine fun dd H1 s1 h1 n1 => ?_
        refine ⟨true, X.ex_InvalidSubject, fun q => Bool.noConfusion q, fun _ a ha => ⟨_, rfl, ?_⟩⟩
        have hk : (upd H1 a (QX.Kept (.ref X.e_InvalidSubject) (some dd) a)) a = some (QX.Kept (.ref X.e_InvalidSubject) (some dd) a) := upd_same
        have hx := (same_new (o := QX.Kept (.ref X.e_InvalidSubject) (some dd) a) ha) _ _ h1
        have s2 := (s0.trans s1).trans (same_new (o := QX.Kept (.ref X.e_InvalidSubject) (some dd) a) ha)
        refine ⟨_, rfl, rfl, _, rfl, ?_⟩
        rw [decide_eq_false (fun e => nomatch e)]
        refine iteF ?_
        refine ⟨_, rfl, a, _, some dd, _, _, false, rfl, hk, .inr ⟨dd, _, rfl, hx⟩, X.xt_InvalidSubject.exc, .own _, X.ki_InvalidSubject_InvalidStarts, false, rfl, ?_⟩
        refine iteF ?_
        refine ⟨_, rfl, a, _, some dd, _, _, true, rfl, hk, .inr ⟨dd, _, rfl, hx⟩, X.xt_InvalidSubject.exc, .ty "ValueError", X.kv_InvalidSubject, true, rfl, ?_⟩
        refine iteF ?_
        refine ⟨_, rfl, a, _, some dd, _, _, false, rfl, hk, .inr ⟨dd, _, rfl, hx⟩, X.xt_InvalidSubject.exc, .own _, X.ki_InvalidSubject_InvalidNumber, false, rfl, ?_⟩
        refine iteF ?_
        refine ⟨_, rfl, a, _, some dd, _, _, true, rfl, hk, .inr ⟨dd, _, rfl, hx⟩, X.xt_InvalidSubject.exc, .own _, X.ki_InvalidSubject_InvalidSubject, true, rfl, ?_⟩
        refine iteT ?_
        refine ⟨_, rfl, a, _, dd, _, iv, rfl, hk, X.xt_InvalidSubject.xf, X.xt_InvalidSubject.noF, hx, look1 _ _, by show 2 ≤ sizeLine; decide, fun p hp => ?_⟩
        exact q1 (fun z => nomatch z) p _ (s2.trans (same_new hp)) (s2.free hp) upd_same
      | programs iv =>
        refine fun dd H1 s1 h1 n1 => ?_
        refine ⟨true, X.ex_InvalidPrograms, fun q => Bool.noConfusion q, fun _ a ha => ⟨_, rfl, ?_⟩⟩
        have hk : (upd H1 a (QX.Kept (.ref X.e_InvalidPrograms) (some dd) a)) a = some (QX.Kept (.ref X.e_InvalidPrograms) (some dd) a) := upd_same
        have hx := (same_new (o := QX.Kept (.ref X.e_InvalidPrograms) (some dd) a) ha) _ _ h1
        have s2 := (s0.trans s1).trans (same_new (o := QX.Kept (.ref X.e_InvalidPrograms) (some dd) a) ha)
        refine ⟨_, rfl, rfl, _, rfl, ?_⟩
        rw [decide_eq_false (fun e => nomatch e)]
        refine iteF ?_
        refine ⟨_, rfl, a, _, some dd, _, _, false, rfl, hk, .inr ⟨dd, _, rfl, hx⟩, X.xt_InvalidPrograms.exc, .own _, X.ki_InvalidPrograms_InvalidStarts, false, rfl, ?_⟩
        refine iteF ?_
        refine ⟨_, rfl, a, _, some dd, _, _, true, rfl, hk, .inr ⟨dd, _, rfl, hx⟩, X.xt_InvalidPrograms.exc, .ty "ValueError", X.kv_InvalidPrograms, true, rfl, ?_⟩
        refine iteF ?_
        refine ⟨_, rfl, a, _, some dd, _, _, false, rfl, hk, .inr ⟨dd, _, rfl, hx⟩, X.xt_InvalidPrograms.exc, .own _, X.ki_InvalidPrograms_InvalidNumber, false, rfl, ?_⟩
        refine iteF ?_
        refine ⟨_, rfl, a, _, some dd, _, _, false, rfl, hk, .inr ⟨dd, _, rfl, hx⟩, X.xt_InvalidPrograms.exc, .own _, X.ki_InvalidPrograms_InvalidSubject, false, rfl, ?_⟩
        refine iteF ?_
        refine ⟨_, rfl, a, _, some dd, _, _, true, rfl, hk, .inr ⟨dd, _, rfl, hx⟩, X.xt_InvalidPrograms.exc, .own _, X.ki_InvalidPrograms_InvalidPrograms, true, rfl, ?_⟩
        refine iteT ?_
        refine ⟨_, rfl, a, _, dd, _, iv, rfl, hk, X.xt_InvalidPrograms.xf, X.xt_InvalidPrograms.noF, hx, look1 _ _, by show 2 ≤ sizeLine; decide, fun p hp => ?_⟩
        exact q1 (fun z => nomatch z) p _ (s2.trans (same_new hp)) (s2.free hp) upd_same
      | many =>
        refine fun dd H1 s1 h1 n1 => ?_
        refine ⟨true, X.ex_TooMany, fun q => Bool.noConfusion q, fun _ a ha => ⟨_, rfl, ?_⟩⟩
        have hk : (upd H1 a (QX.Kept (.ref X.e_TooMany) (some dd) a)) a = some (QX.Kept (.ref X.e_TooMany) (some dd) a) := upd_same
        have hx := (same_new (o := QX.Kept (.ref X.e_TooMany) (some dd) a) ha) _ _ h1
        have s2 := (s0.trans s1).trans (same_new (o := QX.Kept (.ref X.e_TooMany) (some dd) a) ha)
        refine ⟨_, rfl, rfl, _, rfl, ?_⟩
        rw [decide_eq_false (fun e => nomatch e)]
        refine iteF ?_
        refine ⟨_, rfl, a, _, some dd, _, _, false, rfl, hk, .inr ⟨dd, _, rfl, hx⟩, X.xt_TooMany.exc, .own _, X.ki_TooMany_InvalidStarts, false, rfl, ?_⟩
        refine iteF ?_
        refine ⟨_, rfl, a, _, some dd, _, _, true, rfl, hk, .inr ⟨dd, _, rfl, hx⟩, X.xt_TooMany.exc, .ty "ValueError", X.kv_TooMany, true, rfl, ?_⟩
        refine iteF ?_
        refine ⟨_, rfl, a, _, some dd, _, _, false, rfl, hk, .inr ⟨dd, _, rfl, hx⟩, X.xt_TooMany.exc, .own _, X.ki_TooMany_InvalidNumber, false, rfl, ?_⟩
        refine iteF ?_
        refine ⟨_, rfl, a, _, some dd, _, _, false, rfl, hk, .inr ⟨dd, _, rfl, hx⟩, X.xt_TooMany.exc, .own _, X.ki_TooMany_InvalidSubject, false, rfl, ?_⟩
        refine iteF ?_
        refine ⟨_, rfl, a, _, some dd, _, _, false, rfl, hk, .inr ⟨dd, _, rfl, hx⟩, X.xt_TooMany.exc, .own _, X.ki_TooMany_InvalidPrograms, false, rfl, ?_⟩
        refine iteF ?_
        refine ⟨_, rfl, a, _, some dd, _, _, false, rfl, hk, .inr ⟨dd, _, rfl, hx⟩, X.xt_TooMany.exc, .own _, X.ki_TooMany_UnlikeTags, false, rfl, ?_⟩
        refine iteF ?_
        refine ⟨_, rfl, a, _, some dd, _, _, true, rfl, hk, .inr ⟨dd, _, rfl, hx⟩, X.xt_TooMany.exc, .own _, X.ki_TooMany_TooMany, ?_⟩
        refine ⟨true, rfl, ?_⟩
        refine ⟨_, rfl, a, _, dd, _, _, rfl, hk, X.xt_TooMany.xf, X.xt_TooMany.noF, hx, look1 _ _, by show 2 ≤ sizeLine; decide, fun p hp => ?_⟩
        exact q1 (fun z => nomatch z) p _ (s2.trans (same_new hp)) (s2.free hp) upd_same
      | unlike =>
        refine ⟨true, X.ex_UnlikeTags, fun q => Bool.noConfusion q, fun _ a ha => ⟨_, rfl, ?_⟩⟩
        have hk : (upd H0 a (QX.Kept (.ref X.e_UnlikeTags) none a)) a = some (QX.Kept (.ref X.e_UnlikeTags) none a) := upd_same
        have s2 := s0.trans (same_new (o := QX.Kept (.ref X.e_UnlikeTags) none a) ha)
        refine ⟨_, rfl, rfl, _, rfl, ?_⟩
        rw [decide_eq_false (fun e => nomatch e)]
        refine iteF ?_
        refine ⟨_, rfl, a, _, none, _, _, false, rfl, hk, .inl rfl, X.nx_UnlikeTags.exc, .own _, X.ki_UnlikeTags_InvalidStarts, false, rfl, ?_⟩
        refine iteF ?_
        refine ⟨_, rfl, a, _, none, _, _, true, rfl, hk, .inl rfl, X.nx_UnlikeTags.exc, .ty "ValueError", X.kv_UnlikeTags, true, rfl, ?_⟩
        refine iteF ?_
        refine ⟨_, rfl, a, _, none, _, _, false, rfl, hk, .inl rfl, X.nx_UnlikeTags.exc, .own _, X.ki_UnlikeTags_InvalidNumber, false, rfl, ?_⟩
        refine iteF ?_
        refine ⟨_, rfl, a, _, none, _, _, false, rfl, hk, .inl rfl, X.nx_UnlikeTags.exc, .own _, X.ki_UnlikeTags_InvalidSubject, false, rfl, ?_⟩
        refine iteF ?_
        refine ⟨_, rfl, a, _, none, _, _, false, rfl, hk, .inl rfl, X.nx_UnlikeTags.exc, .own _, X.ki_UnlikeTags_InvalidPrograms, false, rfl, ?_⟩
        refine iteF ?_
        refine ⟨_, rfl, a, _, none, _, _, true, rfl, hk, .inl rfl, X.nx_UnlikeTags.exc, .own _, X.ki_UnlikeTags_UnlikeTags, true, rfl, ?_⟩
        refine iteT ?_
        refine ⟨by show 1 ≤ sizeLine; decide, fun p hp => ?_⟩
        exact q1 (fun z => nomatch z) p _ (s2.trans (same_new hp)) (s2.free hp) upd_same
    · intro p xs np
      have s1 := same_new (o := .lst xs) np
      refine ⟨_, rfl, rfl, _, rfl, ?_⟩
      rw [decide_eq_true rfl]
      refine iteT ?_
      refine ⟨by show 1 ≤ sizeLine; decide, fun p2 hp => ?_⟩
      subst eo
      exact q2 rfl p2 H1 _ rl (s1.trans (same_new hp)) (s1.free hp) upd_same
end
end Law
end

section
set_option Elab.async false
set_option linter.all false
set_option maxRecDepth 100000
set_option maxHeartbeats 4000000
namespace Law
open PySem PySem.Spec PyProof.Rows L2 LamX QB QM QV
theorem inV_nats (k : Nat) (l : List Nat) : inV (.int (k : Int)) (vN l) = decide (k ∈ l) := by
  unfold inV vN
  induction l with
  | nil => simp
  | cons x l ih =>
    rw [List.map_cons, List.any_cons, ih]
    have e : eqV (.int (x : Int)) (.int (k : Int)) = decide (k = x) := by
      show ((x : Int) == (k : Int)) = _
      by_cases h : k = x
      · subst h
        simp
      · rw [decide_eq_false h]
        exact beq_eq_false_iff_ne.mpr fun z => h (Int.ofNat.inj z).symm
    rw [e]
    by_cases h : k = x <;> simp [h]
theorem vN_flat (l : List Nat) : (vN l).all flatV = true := by
  rw [List.all_eq_true]
  intro v hv
  obtain ⟨i, _, rfl⟩ := List.mem_map.mp hv
  rfl
def numOut (way n m : Nat) (v y : V) (d dy : PyData) : Out :=
  if numD 0 ((n : Int) - 1) d = false then .number v else if (way = 1 ∨ way = 2) ∧ numD 0 ((m : Int) - 1) dy = false then .number y else .let_
def subOut (tags : List Str) (d : PyData) : Out := match wordDue tags 200 d with
  | some iv => .subject iv
  | none => .let_
def progOut (xs : List Prog) (r : Prog) : Out := match progDue xs with
  | some iv => .programs iv
  | none => if r.tags = xs.head?.bind Prog.tags then .let_ else .unlike
section
variable {P : Program} {w : World} {K : PySem.W.Frag} {mg : Str → Option Value} {base : Heap}
def spIsNumL : Sp := fun vs H Q _ => ∃ (v : V) (d : PyData) (m : Nat), vs = [v, .int (m : Int)] ∧ Dv H v d ∧ Q (.bl (numD 0 ((m : Int) - 1) d)) H
theorem ok__law_is_number (X : TX K mg) : FnOk P w K mg base CX0 3 X.d__law_is_number.a X.d__law_is_number.fd ["thing", "many"] spIsNumL := by
  have nd := sc__law_is_number.nd
  refine X.d__law_is_number.F.ok sc__law_is_number (fun vs H Q E h => ?_) (fun cdv A outer s H vs Q E hr h => ?_)
  · obtain ⟨v, d, m, rfl, _⟩ := h
    rfl
  · obtain ⟨v, d, m, rfl, hd, k⟩ := h
    refine ⟨_, (pss_one (ps_ret (pe_and (pe_callB (QB.call_isiK K) (by rfl) X.n_isinstance QB.bo_isinstance (pa_cons (pv 0) (pa_cons (pe_bltn (v := .ty "int") (by rfl) X.n_int QB.bo_int rfl) pa_nil))) (pe_and (pe_not (pe_callB (QB.call_isiK K) (by rfl) X.n_isinstance QB.bo_isinstance (pa_cons (pv 0) (pa_cons (pe_bltn (v := .ty "bool") (by rfl) X.n_bool QB.bo_bool rfl) pa_nil)))) (pe_one (pe_chain op_le op_lt pe_int (pv 0) (pv 1))))))), ?_⟩
    try dsimp only [Cx.nox, Cx.wish, cxOf]
    refine ⟨_, rfl, _, _, _, _, isID d, rfl, .ty "int", hd.ty K, kit_i d, isID d, rfl, ?_⟩
    cases hd with
    | bl b =>
      refine iteT ?_
      refine ⟨_, rfl, _, _, _, _, true, rfl, .ty "bool", (Dv.bl b).ty K, kit_b (.bool b), true, rfl, false, rfl, ?_⟩
      exact iteF k
    | int n =>
      refine iteT ?_
      refine ⟨_, rfl, _, _, _, _, false, rfl, .ty "bool", (Dv.int (H := H) n).ty K, kit_b (.int n), false, rfl, true, rfl, ?_⟩
      refine iteT ?_
      have k : Q (.bl (decide ((0 : Int) ≤ n ∧ n ≤ (m : Int) - 1))) H := k
      refine ⟨_, rfl, _, _, rfl, rfl, _, rfl, ?_⟩
      by_cases h1 : (0 : Int) ≤ n
      · rw [if_pos (decide_eq_true h1)]
        refine ⟨_, rfl, _, _, rfl, rfl, ?_⟩
        have e : decide ((0 : Int) ≤ n ∧ n ≤ (m : Int) - 1) = decide (n < (m : Int)) := by
          by_cases z : n < (m : Int)
          · rw [decide_eq_true z]
            exact decide_eq_true ⟨h1, by omega⟩
          · rw [decide_eq_false z]
            exact decide_eq_false (by omega)
        rw [e] at k
        exact k
      · rw [if_neg (by simpa using h1)]
        have e : decide ((0 : Int) ≤ n ∧ n ≤ (m : Int) - 1) = false := by simp [h1]
        rw [e] at k
        exact k
    | _ => exact iteF k
def spNumDue : Sp := fun vs H Q _ => ∃ (way n m : Nat) (v y : V) (d dy : PyData), vs = [.int (way : Int), .int (n : Int), .int (m : Int), v, y] ∧ Dv H v d ∧ Dv H y dy ∧ ∀ p H', Same H H' → H p = none → H' p = some (.lst (outL (numOut way n m v y d dy))) → Q (.ref p) H'
theorem ok__law_number_due (X : TX K mg) : FnOk P w K mg base CX0 4 X.d__law_number_due.a X.d__law_number_due.fd ["way", "letters", "programs", "one", "other"] spNumDue := by
  have nd := sc__law_number_due.nd
  refine X.d__law_number_due.F.ok sc__law_number_due (fun vs H Q E h => ?_) (fun cdv A outer s H vs Q E hr h => ?_)
  · obtain ⟨way, n, m, v, y, d, dy, rfl, _⟩ := h
    rfl
  · obtain ⟨way, n, m, v, y, d, dy, rfl, hd, hdy, k⟩ := h
    refine ⟨_, (pss_cons (ps_if (pt_not (pt_val (pe_call (ok__law_is_number X) (hr.mono (by decide)) rfl X.d__law_is_number.mg X.d__law_is_number.F.kp X.d__law_is_number.b .nil pass0 (pa_cons (pv 3) (pa_cons (pv 1) pa_nil))))) (pss_one (ps_ret (pe_lst (pa_cons pe_str (pa_cons (pv 3) pa_nil))))) pss_nil) (pss_cons (ps_if (PW.pt (pw_and (pt_cmpR (QB.op_inK K) (pv 0) (pe_lst (pa_cons pe_int (pa_cons pe_int pa_nil))) rfl) (pw_and1 (pt_not (pt_val (pe_call (ok__law_is_number X) (hr.mono (by decide)) rfl X.d__law_is_number.mg X.d__law_is_number.F.kp X.d__law_is_number.b .nil pass0 (pa_cons (pv 4) (pa_cons (pv 2) pa_nil)))))))) (pss_one (ps_ret (pe_lst (pa_cons pe_str (pa_cons (pv 4) pa_nil))))) pss_nil) (pss_one (ps_ret (pe_lst (pa_cons pe_str pa_nil)))))), ?_⟩
    try dsimp only [Cx.nox, Cx.wish, cxOf]
    unfold numOut at k
    refine ⟨_, rfl, _, rfl, v, d, n, rfl, hd, _, rfl, ?_⟩
    cases e1 : numD 0 ((n : Int) - 1) d with
    | false =>
      rw [if_pos e1] at k
      refine iteT ?_
      refine ⟨_, rfl, by show 2 ≤ sizeLine; decide, fun p np => ?_⟩
      exact k p _ (same_new np) np upd_same
    | true =>
      rw [if_neg (by rw [e1]; simp)] at k
      refine iteF ?_
      refine ⟨_, rfl, by show 2 ≤ sizeLine; decide, fun q nq => ?_⟩
      have s1 := same_new (o := .lst [V.int 1, V.int 2]) nq
      have h1 : (upd H q (.lst [V.int 1, V.int 2])) q = some (.lst [V.int 1, V.int 2]) := upd_same
      generalize upd H q (.lst [V.int 1, V.int 2]) = H1 at s1 h1 ⊢
      refine ⟨q, _, rfl, .inl (SqL.of h1), rfl, rfl, _, rfl, ?_⟩
      have ei : inV (.int (way : Int)) [V.int 1, V.int 2] = decide (way = 1 ∨ way = 2) := by
        have h := inV_nats way [1, 2]
        refine h.trans ?_
        by_cases z : way = 1 ∨ way = 2
        · rw [decide_eq_true z]
          exact decide_eq_true (by simpa using z)
        · rw [decide_eq_false z]
          exact decide_eq_false (by simpa using z)
      rw [show (if false = true then !inV (.int (way : Int)) [V.int 1, V.int 2] else inV (.int (way : Int)) [V.int 1, V.int 2]) = inV (.int (way : Int)) [V.int 1, V.int 2] from rfl, ei]
      by_cases hw : way = 1 ∨ way = 2
      · rw [decide_eq_true hw]
        refine iteT ?_
        refine ⟨_, rfl, _, rfl, y, dy, m, rfl, hdy.same s1, _, rfl, ?_⟩
        cases e2 : numD 0 ((m : Int) - 1) dy with
        | false =>
          rw [if_pos ⟨hw, e2⟩] at k
          refine iteT ?_
          refine ⟨_, rfl, by show 2 ≤ sizeLine; decide, fun p np => ?_⟩
          exact k p _ (s1.trans (same_new np)) (s1.free np) upd_same
        | true =>
          rw [if_neg (by rw [e2]; simp)] at k
          refine iteF ?_
          refine ⟨by show 1 ≤ sizeLine; decide, fun p np => ?_⟩
          exact k p _ (s1.trans (same_new np)) (s1.free np) upd_same
      · rw [decide_eq_false hw]
        rw [if_neg fun z => hw z.1] at k
        refine iteF ?_
        refine ⟨by show 1 ≤ sizeLine; decide, fun p np => ?_⟩
        exact k p _ (s1.trans (same_new np)) (s1.free np) upd_same
/-- the first of those that are wrong -/
theorem first_filter {p : Nat → Bool} : ∀ {l : List Nat}, (l.filter p).head? = l.find? p
  | [] => rfl
  | x :: l => by
    rw [List.filter_cons, List.find?_cons]
    cases h : p x with
    | true => rfl
    | false => exact first_filter
def spSubDue : Sp := fun vs H Q _ => ∃ (a : Addr) (tags : List Str) (v : V) (d : PyData), vs = [.ref a, v] ∧ WordAt H a tags ∧ Dv H v d ∧ d.weight ≤ 10000 ∧ ∀ p H', Same H H' → H p = none → H' p = some (.lst (outL (subOut tags d))) → Q (.ref p) H'
theorem ok__law_subject_due (X : TX K mg) : FnOk P w K mg base CX0 3 X.d__law_subject_due.a X.d__law_subject_due.fd ["tags", "one"] spSubDue := by
  have nd := sc__law_subject_due.nd
  refine X.d__law_subject_due.F.ok sc__law_subject_due (fun vs H Q E h => ?_) (fun cdv A outer s H vs Q E hr h => ?_)
  · obtain ⟨a, tags, v, d, rfl, _⟩ := h
    rfl
  · obtain ⟨ta, tags, v, d, rfl, hta, hd, hz, k⟩ := h
    refine ⟨_, (pss_cons (ps_if (PW.pt (pw_or (pt_not (pt_val (pe_callB (QB.call_isiK K) (by rfl) X.n_isinstance QB.bo_isinstance (pa_cons (pv 1) (pa_cons (pe_bltn (v := .ty "list") (by rfl) X.n_list QB.bo_list rfl) pa_nil))))) (pw_or1 (pt_cmpR op_gt (pe_callB (QB.call_lenK K) (by rfl) X.n_len PySem.boot_len (pa_cons (pv 1) pa_nil)) pe_int (nomark _))))) (pss_one (ps_ret (pe_lst (pa_cons pe_str (pa_cons pe_non pa_nil))))) pss_nil) (pss_cons (ps_setLc (i := 2) (own := [("k", 3), ("tag", 4)]) (g := gTup K 2 (gCons (gName 3) (gCons (gName 4) (gNil)))) rfl nd rfl rfl (sw_true rfl rfl rfl (by decide +kernel)) (QB.pi_enumK K (by rfl) X.n_enumerate (pa_cons (pv 1) pa_nil)) (blkOk_by (N := ["tags", "one", "wrong", "k", "tag"]) (sc := defScope s__law_subject_due) (by decide +kernel)) (fun _ _ _ _ _ => pg_tup (by rfl) (pgs_cons (pg_name (i := 3) nd rfl (Or.inl rfl)) (pgs_cons (pg_name (i := 4) nd rfl (Or.inl rfl)) (pgs_nil)))) (fun _ _ _ _ _ => pts_one (PW.pt (pw_or (pt_not (pt_val (pe_callB (QB.call_isiK K) (by rfl) X.n_isinstance QB.bo_isinstance (pa_cons (pv 4) (pa_cons (pe_bltn (v := .ty "str") (by rfl) X.n_str QB.bo_str rfl) pa_nil))))) (pw_or1 (pt_cmpR (QB.op_notInK K) (pv 4) (pv 0) rfl))))) (fun _ _ _ _ _ => (pv 3))) (pss_one (ps_ret (pe_ix (QB.ix_listK K) (pe_lst (pa_cons (pe_lst (pa_cons pe_str pa_nil)) (pa_cons (pe_lst (pa_cons pe_str (pa_cons (pe_ix (QB.ix_listK K) (pe_op op_cat (pv 2) (pe_lst (pa_cons pe_int pa_nil))) pe_int (fun _ _ => rfl)) pa_nil))) pa_nil))) (pe_callTy call_int1 (by rfl) X.n_int QB.bo_int (pa_cons (pe_cmpR (QB.op_neDK K hr.units) (pv 2) (pe_lst pa_nil) (nomark _)) pa_nil)) (fun _ _ => rfl)))))), ?_⟩
    try dsimp only [Cx.nox, Cx.wish, cxOf]
    refine ⟨_, rfl, _, _, _, _, isLD d, rfl, .ty "list", hd.ty K, kit_l d, isLD d, rfl, ?_⟩
    cases hd with
    | @lst a xs ds ha hall =>
      refine iteF ?_
      have hln := hall.len
      rw [w_list] at hz
      have z1 := all_len ds
      refine ⟨_, rfl, _, _, rfl, .inl (SqL.of ha), _, _, rfl, rfl, _, rfl, ?_⟩
      have due : wordDue tags 200 (.list ds) = if ds.length ≤ 200 then idx (firstBad (badWord tags ds) ds.length) else some .non := rfl
      by_cases h2 : 200 < xs.length
      · rw [decide_eq_true (by omega)]
        refine iteT ?_
        refine ⟨by show 2 ≤ sizeLine; decide, fun p np => ?_⟩
        refine k p _ (same_new np) np ?_
        rw [upd_same]
        unfold subOut
        rw [due, if_neg (by omega)]
        rfl
      · rw [decide_eq_false (by omega)]
        refine iteF ?_
        rw [if_pos (by omega)] at due
        refine ⟨_, rfl, _, _, rfl, SqL.of ha, fun D nD => ?_⟩
        refine lc_filter (walk_enum (K := K) (a := a) (xs := xs)) nD (by omega) (fun H' s' => SqL.of (s' _ _ ha)) (fun i => .int (i : Int)) (badWord tags ds) ?_ ?_
        · rintro i u H2 H3 kk N hi s2 ⟨tp, x1, x2, rfl, ntp, rfl, e1, e2⟩ y1 y2
          cases e1
          have e2 : xs[i]? = some x2 := e2
          obtain ⟨d2, hd2, hv2⟩ := hall.get e2
          have s3 : Same H2 (upd H2 tp (.tup [.int (i : Int), x2])) := same_new ntp
          have s23 := s2.trans s3
          have hb : badWord tags ds i = !tagD tags d2 := by
            unfold badWord
            rw [hd2]
          rw [hb] at y1 y2
          refine ⟨tp, _, rfl, SqT.of upd_same, rfl, _, _, rfl, _, _, rfl, rfl, rfl, ?_⟩
          have hv3 := hv2.same s23
          refine ⟨_, rfl, _, _, _, _, isSD d2, rfl, .ty "str", hv3.ty K, kit_s d2, isSD d2, rfl, ?_⟩
          cases hv3 with
          | str t =>
            refine iteF ?_
            refine ⟨_, rfl, _, rfl, ta, _, rfl, .inl (SqL.of (Same.word s23 hta)), rfl, vS_flat, _, rfl, ?_⟩
            rw [show (if true = true then !inV (.str t) (vS tags) else inV (.str t) (vS tags)) = !inV (.str t) (vS tags) from rfl, inV_word]
            have e : tagD tags (.str t) = decide (t ∈ tags) := rfl
            rw [e] at y1 y2
            by_cases hm : t ∈ tags
            · rw [decide_eq_true hm] at y1 y2 ⊢
              exact iteF (y2 rfl _ s3)
            · rw [decide_eq_false hm] at y1 y2 ⊢
              exact iteT ⟨_, rfl, y1 rfl _ s3⟩
          | _ => exact iteT (iteT ⟨_, rfl, y1 rfl _ s3⟩)
        · intro H2 s2 h2
          obtain ⟨wl, hwl⟩ : ∃ wl, wl = (List.range xs.length).filter (badWord tags ds) := ⟨_, rfl⟩
          have hD : H2 D = some (.lst (vN wl)) := by
            rw [h2, hwl]
            rfl
          have wll : wl.length ≤ 200 := by
            have := List.length_filter_le (badWord tags ds) (List.range xs.length)
            rw [List.length_range] at this
            rw [hwl]
            omega
          have fb : wl.head? = firstBad (badWord tags ds) ds.length := by
            rw [hwl, ← hln]
            exact first_filter
          refine ⟨by show 1 ≤ sizeLine; decide, fun l1 n1 => ?_⟩
          have s3 := same_new (o := .lst [V.str "let"]) n1
          have hl1 : (upd H2 l1 (.lst [V.str "let"])) l1 = some (.lst [V.str "let"]) := upd_same
          generalize upd H2 l1 (.lst [V.str "let"]) = H3 at s3 hl1 ⊢
          refine ⟨_, rfl, by show 1 ≤ sizeLine; decide, fun z nz => ?_⟩
          have s4 := same_new (o := .lst [V.int 0]) nz
          have hz4 : (upd H3 z (.lst [V.int 0])) z = some (.lst [V.int 0]) := upd_same
          generalize upd H3 z (.lst [V.int 0]) = H4 at s4 hz4 ⊢
          have hD4 := s4 _ _ (s3 _ _ hD)
          refine ⟨_, _, _, _, rfl, rfl, hD4, hz4, by rw [vN_len]; exact sz_le (by show _ + 1 ≤ _; omega), fun c nc => ?_⟩
          have s5 := same_new (o := .lst (vN wl ++ [V.int 0])) nc
          have hc5 : (upd H4 c (.lst (vN wl ++ [V.int 0]))) c = some (.lst (vN wl ++ [V.int 0])) := upd_same
          generalize upd H4 c (.lst (vN wl ++ [V.int 0])) = H5 at s5 hc5 ⊢
          refine ⟨c, _, 0, V.int ((wl.head?.getD 0 : Nat) : Int), rfl, rfl, SqL.of hc5, atI_nat (j := 0) (by cases wl <;> rfl), by show 2 ≤ sizeLine; decide, fun l2 n2 => ?_⟩
          have s6 := same_new (o := .lst [V.str "subject", V.int ((wl.head?.getD 0 : Nat) : Int)]) n2
          have hl2 : (upd H5 l2 (.lst [V.str "subject", V.int ((wl.head?.getD 0 : Nat) : Int)])) l2 = some (.lst [V.str "subject", V.int ((wl.head?.getD 0 : Nat) : Int)]) := upd_same
          generalize upd H5 l2 (.lst [V.str "subject", V.int ((wl.head?.getD 0 : Nat) : Int)]) = H6 at s6 hl2 ⊢
          refine ⟨by show 2 ≤ sizeLine; decide, fun l3 n3 => ?_⟩
          have s7 := same_new (o := .lst [V.ref l1, V.ref l2]) n3
          have hl3 : (upd H6 l3 (.lst [V.ref l1, V.ref l2])) l3 = some (.lst [V.ref l1, V.ref l2]) := upd_same
          generalize upd H6 l3 (.lst [V.ref l1, V.ref l2]) = H7 at s7 hl3 ⊢
          have s37 := ((s4.trans s5).trans s6).trans s7
          refine ⟨_, rfl, by show 0 ≤ sizeLine; decide, fun e ne => ?_⟩
          have s8 := same_new (o := .lst ([] : List V)) ne
          have he8 : (upd H7 e (.lst ([] : List V))) e = some (.lst []) := upd_same
          generalize upd H7 e (.lst ([] : List V)) = H8 at s8 he8 ⊢
          have s38 := s37.trans s8
          refine ne_enc enc_nats (by decide) (dp_nats (s38 _ _ (s3 _ _ hD))) (x := wl) (y := []) (.lst (SqL.of he8) .nil) (fun _ _ => trivial) (fun _ _ => trivial) ?_
          refine .inr ⟨_, rfl, ?_⟩
          have s28 := s2.trans (s3.trans s38)
          have due2 : wordDue tags 200 (.list ds) = idx wl.head? := by rw [due, fb]
          unfold subOut at k
          rw [due2] at k
          cases wl with
          | nil =>
            refine ⟨l3, _, _, V.ref l1, rfl, rfl, SqL.of (s8 _ _ hl3), rfl, ?_⟩
            exact k l1 H8 s28 (s2.free n1) (s38 _ _ hl1)
          | cons x wl =>
            refine ⟨l3, _, _, V.ref l2, rfl, rfl, SqL.of (s8 _ _ hl3), rfl, ?_⟩
            exact k l2 H8 s28 ((s2.trans ((s3.trans s4).trans s5)).free n2) ((s7.trans s8) _ _ hl2)
    | _ =>
      refine iteT ?_
      refine ⟨by show 2 ≤ sizeLine; decide, fun p np => ?_⟩
      exact k p _ (same_new np) np upd_same
end
end Law
end

section
set_option linter.all false
set_option maxRecDepth 100000
set_option maxHeartbeats 4000000
/-! Qguard: a promise of a def that is called where no repr is under way. -/
namespace QG
open PySem PySem.Spec PyProof.Rows L2 LamX
/-- FnOk, but only where the guards are known -/
structure FnG (P : Program) (w : World) (K : PySem.W.Frag) (mg : Str → Option Value) (base : Heap) (CX : CXT) (k : Nat) (f : Addr) (fd : FuncData) (ps : List Str) (sp : Sp) : Prop where
  len : ∀ vs H Q E, sp vs H Q E → vs.length = ps.length
  run : ∀ (A : Around) (outer : List Env) (s : Shared) (H : Hp) (args : Args) (us : List Value) (vs : List V) (Q : VK) (E : XK), A.guards = some [] → Room k A → Env0 P w K mg base A outer s H → BindsTo s fd args (ps.zip us) → Vals vs us → sp vs H Q E →
    codeAny (model P w) A (.call (.ref f) args) (CR CX outer P w H s Q E) s
section
variable {P : Program} {w : World} {K : PySem.W.Frag} {mg : Str → Option Value} {base : Heap}
theorem guards_in {A : Around} {env : Env} (h : A.guards = some []) : (A.deeper env).guards = some [] := h
theorem fnG {x qual : Str} {st : Stmt} {f : Addr} {fd : FuncData} {N ps : List Str} {k : Nat} {sp : Sp} (F : Fun K x qual st f fd) (S : FnScope N ps (defScope st)) (len : ∀ vs H Q E, sp vs H Q E → vs.length = ps.length)
    (hbody : ∀ (cdv : Value) (A : Around) (outer : List Env) (s : Shared) (H : Hp) (vs : List V) (Q : VK) (E : XK), A.guards = some [] → Room k (A.deeper (envOfC qual (defScope st) s.heap.objs.size f cdv)) → sp vs H Q E →
      ∃ t, PSs (cxOf CX0 P w K mg base N qual (defScope st) f cdv A outer s H E).nox (defBody st) t ∧ t { nx := fun _ H' => Q .non H', rt := Q } (start N vs) H) : FnG P w K mg base CX0 (k + 1) f fd ps sp := by
  obtain ⟨oc, od, kV, doc, pm, an, cdv, ct, osl, rfl, lk, hcd⟩ := F.ex
  refine ⟨len, fun A outer s H args us vs Q E hg hr e0 hb r hsp => ?_⟩
  have stay : ∀ b o, base.get? b = some o → s.heap.get? b = some o := fun b o e => (e0.bs b o e).1
  have kin : K.In s.heap := e0.mod.kin.keeps stay
  have where_ : ∀ z ∈ ps.zip us, (defScope st).names.lookup z.1 = some .local ∨ ((defScope st).names.lookup z.1 = some .cell ∧ ((cellsFrom (s.heap.objs.size + 1) (defScope st).names []).lookup z.1).isSome = true) := fun z hz => by
    rcases S.par z.1 (List.of_mem_zip hz).1 with q | q
    · exact .inl q
    · exact .inr ⟨q, PySem.W.cellsFrom_some _ _ _ (.inl q)⟩
  refine codeAny_call_function hr.depth (kin _ _ lk) rfl S.co S.gen rfl (PySem.W.codeRec_of kin hcd) (hb _ _ _ _ (wpAny_newFunctionEnv_cells S.kind where_ fun env he s1 q1 => ?_))
  subst he
  refine ⟨(e0.mod.nolimit.keeps stay).keeps q1.toInCall.keep, codeAny_func ?_⟩
  obtain ⟨t, ht, hq⟩ := hbody cdv A outer s H vs Q E hg (hr.deeper _) hsp
  have I : Inv (cxOf CX0 P w K mg base N qual (defScope st) f cdv A outer s H E) [] (start N vs) H s1 := inv_start S hr.hd e0 (len _ _ _ _ hsp) r q1
  refine wpAny_mono (ht.nox.run [] s1 (start N vs) H _ I hq) (fun fl s' hs => ?_) fun _ _ hs => hs
  cases fl with
  | ret z =>
    obtain ⟨v', τ, G, J, rv, q⟩ := hs
    exact ⟨v', G, J.os, J.bare, J.base, J.hok, rv, q⟩
  | next =>
    obtain ⟨τ, G, J, q⟩ := hs
    exact ⟨.non, G, J.os, J.bare, J.base, J.hok, rfl, q⟩
  | brk =>
    obtain ⟨τ, G, J, q⟩ := hs
    exact q.elim
  | cont =>
    obtain ⟨τ, G, J, q⟩ := hs
    exact q.elim
end
section
variable {X : Cx} {CX : CXT} {k : Nat} {f : Addr} {fd : FuncData} {ps : List Str} {sp : Sp} {E : XK} {x : Str} {p pos : Pos} {e : Expr} {es : List Expr} {t : TA}
/-- f(e, ..), f such a def -/
theorem pe_callG (F : FnG X.prog X.w X.K X.mg X.base CX k f fd ps sp) (gg : X.A.guards = some []) (hr : Room k X.A) (hg : Gl X x) (hm : X.mg x = some (.ref f)) (hk : PySem.W.keepIn X.K (.ref f) = true) (hb : Binds X.K fd ps []) (hx : Passes CX X E)
    (ha : PA X (e :: es) t) (hdb : (x == ("__debug__" : Str)) = false := by decide) (he : starEach (e :: es) X.env = (false, eval e X.env) :: starEach es X.env := by rfl) (hpl : (backTo pos (starEach es X.env)).any (·.1) = false := by rfl) :
    PE X (.Call (.Name x p) (e :: es) [] pos) (tCall sp [] E t) := by
  refine ⟨fun pins s σ H Q I h => ?_⟩
  refine wpAny_Call_Name_kw (ld_glob I hg hm ?_ hdb)
  refine PySem.W.callWith_K (h₀ := X.base) I.ok.mod.kin hk (thn (ha.run pos pins s σ H _ I h) fun us s1 ⟨vs, H1, I1, r, q⟩ => ⟨I1.kIn, ?_⟩) he hpl
  have q : sp vs H1 Q E := by
    have q : sp (vs ++ []) H1 Q E := q
    rw [List.append_nil] at q
    exact q
  have hl : us.length = ps.length := by rw [← r.length]; exact F.len _ _ _ _ q
  have b := hb s1 us I1.kIn (by rw [List.append_nil]; exact hl)
  rw [List.append_nil] at b
  refine wpAny_call (codeAny_mono (F.run X.A X.stack s1 H1 ⟨us, []⟩ us vs Q E gg hr I1.env0 b r q) fun r s' hq => ?_)
  cases r with
  | error e => exact hx pins σ H1 s1 e s' I1 hq
  | ok fl =>
    cases fl with
    | ret u => exact I1.after hq
    | next => exact False.elim hq
    | brk => exact False.elim hq
    | cont => exact False.elim hq
end
end QG
end

section
set_option Elab.async false
set_option linter.all false
set_option maxRecDepth 100000
set_option maxHeartbeats 4000000
namespace Law
open PySem PySem.Spec PyProof.Rows L2 LamX QB QM QV
theorem first_eat' {xs : List Prog} (hl : 0 < xs.length) (b0 : badP xs 0 = false) : ∃ tags0 G0, xs[0]? = some (.eat tags0 G0) := by
  unfold badP at b0
  cases e0 : xs[0]? with
  | none =>
    rw [List.getElem?_eq_none_iff] at e0
    omega
  | some x0 =>
    rw [e0] at b0
    cases x0 with
    | eat t g => exact ⟨t, g, rfl⟩
    | non => cases b0
    | lst => cases b0
theorem first_eat {xs : List Prog} {i : Nat} {tags : Word} {G : Form} (hi : i < xs.length) (hno : ∀ j < i, badP xs j = false) (h : xs[i] = .eat tags G) : ∃ tags0 G0, xs[0]? = some (.eat tags0 G0) := by
  by_cases z : i = 0
  · subst z
    exact ⟨tags, G, by rw [List.getElem?_eq_getElem hi, h]⟩
  · exact first_eat' (by omega) (hno 0 (by omega))
section
variable {P : Program} {w : World} {K : PySem.W.Frag} {mg : Str → Option Value} {base : Heap}
def spProgDue (CE : Addr) : Sp := fun vs H Q _ => ∃ (ta : V) (v y : V) (r : Prog), vs = [ta, v, y] ∧ ProgV CE H y r ∧
  ((∃ p us xs, v = .ref p ∧ H p = some (.lst us) ∧ Paired (ProgV CE H) us xs ∧ xs.length ≤ 1000 ∧ ∀ q H', Same H H' → H q = none → H' q = some (.lst (outL (progOut xs r))) → Q (.ref q) H') ∨
   (NoList H v ∧ ∀ q H', Same H H' → H q = none → H' q = some (.lst (outL (.programs .non))) → Q (.ref q) H'))
theorem ok__law_programs_due (X : TX K mg) : FnOk P w K mg base CX0 3 X.d__law_programs_due.a X.d__law_programs_due.fd ["tags", "one", "other"] (spProgDue X.c_Eater) := by
  have nd := sc__law_programs_due.nd
  refine X.d__law_programs_due.F.ok sc__law_programs_due (fun vs H Q E h => ?_) (fun cdv A outer s H vs Q E hr h => ?_)
  · obtain ⟨ta, v, y, r, rfl, _⟩ := h
    rfl
  · obtain ⟨ta, v, y, r, rfl, hy, k⟩ := h
    refine ⟨_, (pss_cons (ps_if (PW.pt (pw_or (pt_not (pt_val (pe_callB (QB.call_isiK K) (by rfl) X.n_isinstance QB.bo_isinstance (pa_cons (pv 1) (pa_cons (pe_bltn (v := .ty "list") (by rfl) X.n_list QB.bo_list rfl) pa_nil))))) (pw_or (pt_cmpR (QV.op_eqNil hr.units) (pv 1) (pe_lst pa_nil) (nomark _)) (pw_or1 (pt_cmpR op_gt (pe_callB (QB.call_lenK K) (by rfl) X.n_len PySem.boot_len (pa_cons (pv 1) pa_nil)) pe_int (nomark _)))))) (pss_one (ps_ret (pe_lst (pa_cons pe_str (pa_cons pe_non pa_nil))))) pss_nil) (pss_cons (ps_for PassesOwn.never rfl (QB.pi_enumK K (by rfl) X.n_enumerate (pa_cons (pv 1) pa_nil)) (pg_tup (by rfl) (pgs_cons (pg_name (i := 3) nd rfl (Or.inl rfl)) (pgs_cons (pg_name (i := 4) nd rfl (Or.inl rfl)) (pgs_nil)))) (pss_one (ps_if (PW.pt (pw_or (pt_not (pt_val (pe_callB (QB.call_isiK K) (by rfl) X.n_isinstance QB.bo_isinstance (pa_cons (pv 4) (pa_cons (pe_glob (v := .ref X.c_Eater) rfl X.m_Eater rfl) pa_nil))))) (pw_or1 (pt_cmpR (QB.op_neDK K hr.units) (pe_meth0 (pv 4) X.cl_Eater X.h_Eater_tags (ok_Eater_tags X) (hr.mono (by decide)) X.d_Eater_tags.b .nil pass0) (pe_meth0 (pe_ix (QB.ix_listK K) (pv 1) pe_int (fun _ _ => rfl)) X.cl_Eater X.h_Eater_tags (ok_Eater_tags X) (hr.mono (by decide)) X.d_Eater_tags.b .nil pass0) (nomark _))))) (pss_one (ps_ret (pe_lst (pa_cons pe_str (pa_cons (pv 3) pa_nil))))) pss_nil))) (pss_cons (ps_if (PW.pt (pw_or (pt_not (pt_val (pe_callB (QB.call_isiK K) (by rfl) X.n_isinstance QB.bo_isinstance (pa_cons (pv 2) (pa_cons (pe_glob (v := .ref X.c_Eater) rfl X.m_Eater rfl) pa_nil))))) (pw_or1 (pt_cmpR (QB.op_neDK K hr.units) (pe_meth0 (pv 2) X.cl_Eater X.h_Eater_tags (ok_Eater_tags X) (hr.mono (by decide)) X.d_Eater_tags.b .nil pass0) (pe_meth0 (pe_ix (QB.ix_listK K) (pv 1) pe_int (fun _ _ => rfl)) X.cl_Eater X.h_Eater_tags (ok_Eater_tags X) (hr.mono (by decide)) X.d_Eater_tags.b .nil pass0) (nomark _))))) (pss_one (ps_ret (pe_lst (pa_cons pe_str pa_nil)))) pss_nil) (pss_one (ps_ret (pe_lst (pa_cons pe_str pa_nil))))))), ?_⟩
    try dsimp only [Cx.nox, Cx.wish, cxOf]
    rcases k with ⟨p, us, xs, rfl, hp, hx, hl, q⟩ | ⟨rfl | ⟨p, ys, rfl, hp⟩, q⟩
    · have hul : us.length = xs.length := Paired.length hx
      refine ⟨_, rfl, _, _, _, _, true, rfl, .ty "list", .base (.lst hp), kit_l (.list []), true, rfl, ?_⟩
      refine iteF ?_
      refine ⟨_, rfl, by show 0 ≤ sizeLine; decide, fun e ne => ?_⟩
      have s1 := same_new (o := .lst ([] : List V)) ne
      have he : (upd H e (.lst ([] : List V))) e = some (.lst []) := upd_same
      generalize upd H e (.lst ([] : List V)) = H1 at s1 he ⊢
      refine ⟨p, e, us, rfl, rfl, s1 _ _ hp, he, _, rfl, ?_⟩
      have bad : ¬ (1 ≤ xs.length ∧ xs.length ≤ 6) → ∀ H2, Same H1 H2 → ∀ q0, H2 q0 = none → Q (.ref q0) (upd H2 q0 (.lst [V.str "programs", .non])) := fun z H2 s2 q0 n0 => by
        refine q q0 _ ((s1.trans s2).trans (same_new n0)) ((s1.trans s2).free n0) ?_
        rw [upd_same]
        unfold progOut progDue
        rw [if_neg z]
        rfl
      cases us with
      | nil =>
        refine iteT ?_
        refine iteT ?_
        exact ⟨by show 2 ≤ sizeLine; decide, fun q0 n0 => bad (by rw [← hul]; simp) H1 (Same.refl H1) q0 n0⟩
      | cons u us =>
      refine iteF ?_
      refine ⟨_, rfl, _, _, rfl, .inl (SqL.of (s1 _ _ hp)), _, _, rfl, rfl, _, rfl, ?_⟩
      by_cases h6 : 6 < xs.length
      · rw [decide_eq_true (by rw [hul]; omega)]
        refine iteT ?_
        exact ⟨by show 2 ≤ sizeLine; decide, fun q0 n0 => bad (by omega) H1 (Same.refl H1) q0 n0⟩
      rw [decide_eq_false (by rw [hul]; omega)]
      refine iteF ?_
      have hn : 1 ≤ xs.length ∧ xs.length ≤ 6 := by
        rw [List.length_cons] at hul
        omega
      have due : progDue xs = idx (firstBad (badP xs) xs.length) := if_pos hn
      refine ⟨_, rfl, _, _, rfl, SqL.of (s1 _ _ hp), ?_⟩
      refine for_it (walk_enum (K := K) (a := p) (xs := u :: us)) (fun i σ H' => ∃ v1 v2, σ = [some ta, some (.ref p), some y, v1, v2] ∧ Same H H' ∧ ∀ j < i, badP xs j = false) ⟨none, none, rfl, s1, fun j hj => by omega⟩ (fun i σ H' _ ⟨_, _, _, s1, _⟩ => SqL.of (s1 _ _ hp)) ?_ ?_
      · rintro i v σ H2' H2 hi ⟨v1, v2, rfl, s2, hno⟩ ⟨tp, x1, x2, rfl, ntp, rfl, e1, e2⟩
        cases e1
        have hi2 : i < xs.length := by omega
        have e2 : (u :: us)[i]? = some x2 := e2
        obtain ⟨z, hz, hxu⟩ := paired_get (paired_same hx s2) (List.getElem?_eq_getElem hi2)
        rw [e2] at hz
        cases hz
        have s3 := Same.new (Same.refl H2') (o := .tup [.int (i : Int), x2]) ntp
        have tp8 : (upd H2' tp (.tup [.int (i : Int), x2])) tp = some (.tup [.int (i : Int), x2]) := upd_same
        have s13 := s2.trans s3
        have hxu := hxu.same s3
        generalize upd H2' tp (.tup [.int (i : Int), x2]) = H3 at s3 tp8 s13 hxu ⊢
        refine ⟨tp, _, rfl, SqT.of tp8, rfl, _, _, rfl, _, _, rfl, rfl, ?_⟩
        obtain ⟨t, ty, kt⟩ := prog_ty (X := X) hxu
        refine ⟨_, rfl, ?_⟩
        dsimp only [tNil, tCons]
        refine ⟨_, _, _, _, _, rfl, .own _, ty, kt, _, rfl, ?_⟩
        have hbe : badP xs i = ((xs[i]).tags.isNone || decide ((xs[i]).tags ≠ (xs.head?.bind Prog.tags))) := by
          unfold badP
          rw [List.getElem?_eq_getElem hi2]
        have hit : ∀ b : badP xs i = true, ∀ H4, Same H H4 → ∀ q0, H4 q0 = none → Q (.ref q0) (upd H4 q0 (.lst [V.str "programs", .int (i : Int)])) := fun b H4 s4 q0 n0 => by
          refine q q0 _ (s4.trans (same_new n0)) (s4.free n0) ?_
          rw [upd_same]
          unfold progOut
          rw [due, first_at hi2 b hno]
          rfl
        generalize hxi : xs[i] = xi at hxu kt hbe ⊢
        cases xi with
        | non =>
          refine iteT ?_
          refine iteT ?_
          exact ⟨_, rfl, by show 2 ≤ sizeLine; decide, fun q0 n0 => hit hbe H3 s13 q0 n0⟩
        | lst =>
          refine iteT ?_
          refine iteT ?_
          exact ⟨_, rfl, by show 2 ≤ sizeLine; decide, fun q0 n0 => hit hbe H3 s13 q0 n0⟩
        | eat tags G =>
          refine iteF ?_
          obtain ⟨e, rfl, hE, okw⟩ := hxu
          obtain ⟨dx, a1, b1, g1, g2, g3⟩ := hE
          refine ⟨_, rfl, e, dx, _, rfl, g1, rfl, ?_⟩
          refine ⟨e, tags, _, rfl, ⟨dx, a1, b1, g1, g2, g3⟩, fun p1 n1 => ?_⟩
          have t1 := same_new (o := .lst (vS tags)) n1
          have w1 : WordAt (upd H3 p1 (.lst (vS tags))) p1 tags := upd_same
          generalize upd H3 p1 (.lst (vS tags)) = H4 at t1 w1 ⊢
          have s14 := s13.trans t1
          obtain ⟨tags0, G0, hx0⟩ := first_eat hi2 hno hxi
          obtain ⟨u0, hu0, hxu0⟩ := paired_get (paired_same hx s14) hx0
          obtain ⟨e0, rfl, hE0, okw0⟩ := hxu0
          obtain ⟨dx2, a2, b2, f1, f2, f3⟩ := hE0
          refine ⟨_, rfl, p, _, _, _, rfl, rfl, SqL.of (s14 _ _ hp), atI_nat (j := 0) (v := V.ref e0) hu0, ?_⟩
          refine ⟨e0, dx2, _, rfl, f1, rfl, ?_⟩
          refine ⟨e0, tags0, _, rfl, ⟨dx2, a2, b2, f1, f2, f3⟩, fun p2 n2 => ?_⟩
          have t2 := same_new (o := .lst (vS tags0)) n2
          have w2 : WordAt (upd H4 p2 (.lst (vS tags0))) p2 tags0 := upd_same
          refine ne_wd (Same.word t2 w1) w2 okw okw0 ?_
          have hh : xs.head?.bind Prog.tags = some tags0 := by
            rw [List.head?_eq_getElem?, hx0]
            rfl
          rw [hh] at hbe
          refine ⟨_, rfl, ?_⟩
          by_cases et : tags = tags0
          · rw [decide_eq_true et]
            refine iteF ⟨_, _, rfl, s14.trans t2, fun j hj => ?_⟩
            rcases Nat.lt_or_ge j i with z | z
            · exact hno j z
            · have : j = i := by omega
              subst this
              rw [hbe, et]
              simp [Prog.tags]
          · rw [decide_eq_false et]
            refine iteT ?_
            exact ⟨_, rfl, by show 2 ≤ sizeLine; decide, fun q0 n0 => hit (by rw [hbe]; simp [Prog.tags, et]) _ (s14.trans t2) q0 n0⟩
      · rintro σ H2 ⟨v1, v2, rfl, s2, hno⟩
        have dn : progDue xs = none := by
          rw [due, first_none (fun i hi => hno i (by omega))]
          rfl
        have hb0 : badP xs 0 = false := hno 0 (by omega)
        obtain ⟨tags0, G0, hx0⟩ := first_eat' (by omega) hb0
        have hh : xs.head?.bind Prog.tags = some tags0 := by
          rw [List.head?_eq_getElem?, hx0]
          rfl
        have fin : ∀ (o : Out), (o = if r.tags = some tags0 then Out.let_ else Out.unlike) → ∀ H3, Same H H3 → ∀ q0, H3 q0 = none → Q (.ref q0) (upd H3 q0 (.lst (outL o))) := fun o eo H3 s3 q0 n0 => by
          refine q q0 _ (s3.trans (same_new n0)) (s3.free n0) ?_
          rw [upd_same, eo]
          unfold progOut
          rw [dn, hh]
        have hy2 := hy.same s2
        obtain ⟨t, ty, kt⟩ := prog_ty (X := X) hy2
        refine ⟨_, rfl, ?_⟩
        dsimp only [tNil, tCons]
        refine ⟨_, _, _, _, _, rfl, .own _, ty, kt, _, rfl, ?_⟩
        cases r with
        | non =>
          refine iteT ?_
          refine iteT ?_
          exact ⟨by show 1 ≤ sizeLine; decide, fun q0 n0 => fin .unlike (if_neg fun z => nomatch z).symm H2 s2 q0 n0⟩
        | lst =>
          refine iteT ?_
          refine iteT ?_
          exact ⟨by show 1 ≤ sizeLine; decide, fun q0 n0 => fin .unlike (if_neg fun z => nomatch z).symm H2 s2 q0 n0⟩
        | eat tags G =>
          refine iteF ?_
          obtain ⟨e, rfl, hE, okw⟩ := hy2
          obtain ⟨dx, a1, b1, g1, g2, g3⟩ := hE
          refine ⟨_, rfl, e, dx, _, rfl, g1, rfl, ?_⟩
          refine ⟨e, tags, _, rfl, ⟨dx, a1, b1, g1, g2, g3⟩, fun p1 n1 => ?_⟩
          have t1 := same_new (o := .lst (vS tags)) n1
          have w1 : WordAt (upd H2 p1 (.lst (vS tags))) p1 tags := upd_same
          generalize upd H2 p1 (.lst (vS tags)) = H4 at t1 w1 ⊢
          have s14 := s2.trans t1
          obtain ⟨u0, hu0, hxu0⟩ := paired_get (paired_same hx s14) hx0
          obtain ⟨e0, rfl, hE0, okw0⟩ := hxu0
          obtain ⟨dx2, a2, b2, f1, f2, f3⟩ := hE0
          refine ⟨_, rfl, p, _, _, _, rfl, rfl, SqL.of (s14 _ _ hp), atI_nat (j := 0) (v := V.ref e0) hu0, ?_⟩
          refine ⟨e0, dx2, _, rfl, f1, rfl, ?_⟩
          refine ⟨e0, tags0, _, rfl, ⟨dx2, a2, b2, f1, f2, f3⟩, fun p2 n2 => ?_⟩
          have t2 := same_new (o := .lst (vS tags0)) n2
          have w2 : WordAt (upd H4 p2 (.lst (vS tags0))) p2 tags0 := upd_same
          refine ne_wd (Same.word t2 w1) w2 okw okw0 ?_
          refine ⟨_, rfl, ?_⟩
          by_cases et : tags = tags0
          · rw [decide_eq_true et]
            refine iteF ?_
            exact ⟨by show 1 ≤ sizeLine; decide, fun q0 n0 => fin .let_ (if_pos (congrArg some et)).symm _ (s14.trans t2) q0 n0⟩
          · rw [decide_eq_false et]
            refine iteT ?_
            exact ⟨by show 1 ≤ sizeLine; decide, fun q0 n0 => fin .unlike (if_neg fun z => et (Option.some.inj z)).symm _ (s14.trans t2) q0 n0⟩
    · refine ⟨_, rfl, _, _, _, _, false, rfl, .ty "list", .base .non, kit_l .none, false, rfl, ?_⟩
      refine iteT ?_
      refine iteT ?_
      exact ⟨by show 2 ≤ sizeLine; decide, fun q0 n0 => q q0 _ (same_new n0) n0 upd_same⟩
    · refine ⟨_, rfl, _, _, _, _, false, rfl, .ty "list", .base (.tup hp), kit_l (.tuple []), false, rfl, ?_⟩
      refine iteT ?_
      refine iteT ?_
      exact ⟨by show 2 ≤ sizeLine; decide, fun q0 n0 => q q0 _ (same_new n0) n0 upd_same⟩
end
end Law
end

section
set_option Elab.async false
set_option linter.all false
set_option maxRecDepth 100000
set_option maxHeartbeats 4000000
namespace Law
open PySem PySem.Spec PyProof.Rows L2 LamX QB QM QV
/-! data that are soon written -/
def okD (d : PyData) : Bool := d.leavesShort 30 && d.showable
structure Sm (n k : Nat) (d : PyData) : Prop where
  ok : okD d = true
  w : d.weight ≤ n
  dp : d.depth ≤ k
structure SmL (n k : Nat) (ds : List PyData) : Prop where
  ok : ∀ e ∈ ds, okD e = true
  dp : ∀ e ∈ ds, e.depth ≤ k
  w : PyData.weightAll ds ≤ n
theorem Sm.mono {n m k j : Nat} {d : PyData} (h : Sm n k d) (a : n ≤ m) (b : k ≤ j) : Sm m j d := ⟨h.ok, Nat.le_trans h.w a, Nat.le_trans h.dp b⟩
theorem SmL.mono {n m k j : Nat} {d : List PyData} (h : SmL n k d) (a : n ≤ m) (b : k ≤ j) : SmL m j d := ⟨h.ok, fun e he => Nat.le_trans (h.dp e he) b, Nat.le_trans h.w a⟩
theorem depthAll_le {k : Nat} : ∀ {ds : List PyData}, (∀ e ∈ ds, e.depth ≤ k) → PyData.depthAll ds ≤ k
  | [], _ => Nat.zero_le _
  | d :: ds, h => by
    rw [PyData.depthAll]
    exact Nat.max_le.mpr ⟨h d List.mem_cons_self, depthAll_le fun e he => h e (List.mem_cons_of_mem _ he)⟩
theorem okAll : ∀ {ds : List PyData}, (∀ e ∈ ds, okD e = true) → PyData.leavesShortAll 30 ds = true ∧ PyData.showableAll ds = true
  | [], _ => ⟨rfl, rfl⟩
  | d :: ds, h => by
    obtain ⟨a, b⟩ := okAll fun e he => h e (List.mem_cons_of_mem _ he)
    have c := h d List.mem_cons_self
    unfold okD at c
    rw [Bool.and_eq_true] at c
    rw [PyData.leavesShortAll, PyData.showableAll, c.1, c.2, a, b]
    exact ⟨rfl, rfl⟩
theorem SmL.list {n k : Nat} {ds : List PyData} (h : SmL n k ds) : Sm n (k + 1) (.list ds) := by
  obtain ⟨a, b⟩ := okAll h.ok
  refine ⟨?_, by rw [w_list]; exact h.w, ?_⟩
  · unfold okD
    rw [PyData.leavesShort, PyData.showable, a, b]
    rfl
  · rw [PyData.depth]
    have := depthAll_le h.dp
    omega
theorem SmL.tuple {n k : Nat} {ds : List PyData} (h : SmL n k ds) : Sm n (k + 1) (.tuple ds) := by
  obtain ⟨a, b⟩ := okAll h.ok
  refine ⟨?_, by rw [w_tuple]; exact h.w, ?_⟩
  · unfold okD
    rw [PyData.leavesShort, PyData.showable, a, b]
    rfl
  · rw [PyData.depth]
    have := depthAll_le h.dp
    omega
theorem weightAll_app : ∀ (a b : List PyData), PyData.weightAll (a ++ b) = PyData.weightAll a + PyData.weightAll b
  | [], b => by
    rw [List.nil_append, PyData.weightAll]
    omega
  | d :: a, b => by
    rw [List.cons_append, PyData.weightAll, PyData.weightAll, weightAll_app a b]
    omega
theorem SmL.nil {k : Nat} : SmL 0 k [] := ⟨(fun _ h => nomatch h), (fun _ h => nomatch h), Nat.le_refl _⟩
theorem SmL.cons {n m k : Nat} {d : PyData} {ds : List PyData} (a : Sm m k d) (b : SmL n k ds) : SmL (m + 1 + n) k (d :: ds) := by
  refine ⟨fun e he => ?_, fun e he => ?_, ?_⟩
  · rcases List.mem_cons.mp he with rfl | he
    · exact a.ok
    · exact b.ok e he
  · rcases List.mem_cons.mp he with rfl | he
    · exact a.dp
    · exact b.dp e he
  · rw [PyData.weightAll]
    have := a.w
    have := b.w
    omega
theorem SmL.app {n m k : Nat} {a b : List PyData} (h : SmL n k a) (g : SmL m k b) : SmL (n + m) k (a ++ b) := by
  refine ⟨fun e he => ?_, fun e he => ?_, ?_⟩
  · rcases List.mem_append.mp he with he | he
    · exact h.ok e he
    · exact g.ok e he
  · rcases List.mem_append.mp he with he | he
    · exact h.dp e he
    · exact g.dp e he
  · rw [weightAll_app]
    have := h.w
    have := g.w
    omega
theorem SmL.take {n k : Nat} {a : List PyData} (i : Nat) (h : SmL n k a) : SmL n k (a.take i) := by
  refine ⟨fun e he => h.ok e (List.mem_of_mem_take he), fun e he => h.dp e (List.mem_of_mem_take he), ?_⟩
  have := weightAll_app (a.take i) (a.drop i)
  rw [List.take_append_drop] at this
  have := h.w
  omega
theorem SmL.drop {n k : Nat} {a : List PyData} (i : Nat) (h : SmL n k a) : SmL n k (a.drop i) := by
  refine ⟨fun e he => h.ok e (List.mem_of_mem_drop he), fun e he => h.dp e (List.mem_of_mem_drop he), ?_⟩
  have := weightAll_app (a.take i) (a.drop i)
  rw [List.take_append_drop] at this
  have := h.w
  omega
/-- taking out and putting in between -/
theorem SmL.both {n m k : Nat} {a : List PyData} {b : List PyData} (i j : Nat) (hij : i ≤ j) (h : SmL n k a) (g : SmL m k b) : SmL (n + m) k (a.take i ++ b ++ a.drop j) := by
  refine ⟨fun e he => ?_, fun e he => ?_, ?_⟩
  · rcases List.mem_append.mp he with he | he
    · rcases List.mem_append.mp he with he | he
      · exact h.ok e (List.mem_of_mem_take he)
      · exact g.ok e he
    · exact h.ok e (List.mem_of_mem_drop he)
  · rcases List.mem_append.mp he with he | he
    · rcases List.mem_append.mp he with he | he
      · exact h.dp e (List.mem_of_mem_take he)
      · exact g.dp e he
    · exact h.dp e (List.mem_of_mem_drop he)
  · rw [weightAll_app, weightAll_app]
    have e1 := weightAll_app (a.take i) (a.drop i)
    rw [List.take_append_drop] at e1
    have e2 := weightAll_app ((a.drop i).take (j - i)) ((a.drop i).drop (j - i))
    rw [List.take_append_drop, List.drop_drop, show i + (j - i) = j by omega] at e2
    have := h.w
    have := g.w
    omega
theorem sm_non {k : Nat} : Sm 0 k .none := ⟨rfl, Nat.le_refl _, by rw [PyData.depth]; exact Nat.zero_le _⟩
theorem sm_bl {k : Nat} (b : Bool) : Sm 0 k (.bool b) := ⟨by cases b <;> rfl, by rw [PyData.weight]; exact Nat.le_refl _, by rw [PyData.depth]; exact Nat.zero_le _⟩
theorem sm_dct {k : Nat} : Sm 0 (k + 1) (.dict []) := ⟨rfl, Nat.le_refl _, by rw [PyData.depth, PyData.depthKv]; omega⟩
theorem sm_str {k n : Nat} {t : Str} (h : PyData.strOk t = true) (hl : t.length ≤ n) : Sm n k (.str t) := by
  refine ⟨?_, by rw [w_str]; exact hl, by rw [PyData.depth]; exact Nat.zero_le _⟩
  unfold okD
  rw [PyData.leavesShort, PyData.showable, Bool.and_true, List.all_eq_true]
  unfold PyData.strOk at h
  rw [← Array.all_toList, List.all_eq_true] at h
  intro c hc
  have := of_decide_eq_true (h c hc)
  exact decide_eq_true (by omega)
theorem sm_nat {k : Nat} {i : Nat} (h : i ≤ 100) : Sm 8 k (.int (i : Int)) := by
  have all : ∀ i : Fin 101, okD (.int (i.val : Int)) = true ∧ (PyData.int (i.val : Int)).weight ≤ 8 := by decide +kernel
  obtain ⟨a, b⟩ := all ⟨i, by omega⟩
  exact ⟨a, b, by rw [PyData.depth]; exact Nat.zero_le _⟩
/-- one of some data -/
theorem pick {H : Hp} {n k : Nat} {xs : List V} {r : Nat} (hr : r < xs.length) (h : ∀ v ∈ xs, ∃ d, Dv H v d ∧ Sm n k d) : ∃ v, xs[r]? = some v ∧ ∃ d, Dv H v d ∧ Sm n k d :=
  ⟨xs[r], List.getElem?_eq_getElem hr, h _ (List.getElem_mem hr)⟩
theorem any_nil {H : Hp} {n k : Nat} : ∀ v ∈ ([] : List V), ∃ d, Dv H v d ∧ Sm n k d := fun _ h => nomatch h
theorem any_cons {H : Hp} {n k : Nat} {v : V} {xs : List V} {d : PyData} (h : Dv H v d) (s : Sm n k d) (g : ∀ v ∈ xs, ∃ d, Dv H v d ∧ Sm n k d) : ∀ u ∈ v :: xs, ∃ d, Dv H u d ∧ Sm n k d := fun u hu => by
  rcases List.mem_cons.mp hu with rfl | hu
  · exact ⟨d, h, s⟩
  · exact g u hu
theorem word_dv {H : Hp} : ∀ wd : Word, DvAll H (vS wd) (wd.map .str)
  | [] => .nil
  | t :: wd => .cons (.str t) (word_dv wd)
theorem name_sm {k : Nat} {t : Str} (h : NameOk t) : Sm 8 k (.str t) := sm_str h.txt h.len
theorem word_sm {k : Nat} : ∀ {wd : Word}, (∀ t ∈ wd, NameOk t) → SmL (9 * wd.length) k (wd.map .str)
  | [], _ => SmL.nil
  | t :: wd, h => by
    have := SmL.cons (name_sm (k := k) (h t List.mem_cons_self)) (word_sm fun u hu => h u (List.mem_cons_of_mem _ hu))
    exact this.mono (by rw [List.length_cons]; omega) (Nat.le_refl _)
theorem sm_great : Sm 70 1 (.int (10 ^ 20)) := ⟨by decide +kernel, by decide +kernel, by rw [PyData.depth]; exact Nat.zero_le _⟩
theorem sm_less : Sm 70 1 (.int (-1)) := ⟨by decide +kernel, by decide +kernel, by rw [PyData.depth]; exact Nat.zero_le _⟩
theorem Sm.shows {d : PyData} (h : Sm 50000 40 d) : Shows d := by
  have := h.ok
  unfold okD at this
  rw [Bool.and_eq_true] at this
  exact ⟨this.1, this.2, Nat.le_trans h.w (by decide), h.dp⟩
theorem sm_int {k : Nat} {i : Nat} (h : i ≤ 300) : Sm 12 k (.int (i : Int)) := by
  have all : ∀ i : Fin 301, okD (.int (i.val : Int)) = true ∧ (PyData.int (i.val : Int)).weight ≤ 12 := by decide +kernel
  obtain ⟨a, b⟩ := all ⟨i, by omega⟩
  exact ⟨a, b, by rw [PyData.depth]; exact Nat.zero_le _⟩
section
variable {X : Cx}
/-- str of a list, where nothing is being written -/
theorem call_strV (hg : X.A.guards = some []) (hu : X.A.units + 64 < cLine) (hB : ∃ mm, X.base.Ns sysModules mm) : CallR X (.type "str") rReprV := by
  intro pins s σ H xs us Q I r ⟨v, d, a, ex, ev, hd, sh, q⟩
  subst ex ev
  obtain ⟨u, rfl, ru⟩ := vals1 r
  have hdp := sh.deep
  obtain ⟨as, rd, ns⟩ := Dv.reads I hB d _ u hd ru
  cases ru
  exact str_of_reads rd sh.show_ (fun _ => ns) hg (by omega) (fun _ _ z => z) (fun h' t tk hk => ⟨.str d.shown, H, I.kept (t' := tk) hk, ⟨t, rfl⟩, q⟩) sh.size
end
/-! what a mailbox tells of itself, as data -/
def natsPD (l : List Nat) : PyData := .list (l.map fun i : Nat => .int (i : Int))
def wordL (w : Word) : PyData := .list (w.map .str)
def dState (tags : Word) (Gk : Form) (ws : List Word) : PyData :=
  .list (((List.range ws.length).map fun i => PyData.list [wordL (ws.getD i []), wordL ((boxKeys tags Gk ws).getD i []), natsPD (withKey (boxKeys tags Gk ws) ws.length ((boxKeys tags Gk ws).getD i []))]) ++ [.list ((seenTo (boxKeys tags Gk ws) ws.length).map fun k => natsPD (withKey (boxKeys tags Gk ws) ws.length k))])
theorem nats_dv {H : Hp} : ∀ l : List Nat, DvAll H (vN l) (l.map fun i : Nat => .int (i : Int))
  | [] => .nil
  | i :: l => .cons (.int _) (nats_dv l)
theorem nats_sm {k : Nat} : ∀ {l : List Nat}, (∀ i ∈ l, i ≤ 300) → SmL (13 * l.length) k (l.map fun i : Nat => PyData.int (i : Int))
  | [], _ => SmL.nil
  | i :: l, h => (SmL.cons (sm_int (k := k) (h i List.mem_cons_self)) (nats_sm fun j hj => h j (List.mem_cons_of_mem _ hj))).mono (by rw [List.length_cons]; omega) (Nat.le_refl _)
theorem all_sm {α : Type} {n k : Nat} {f : α → PyData} : ∀ {l : List α}, (∀ x ∈ l, Sm n k (f x)) → SmL ((n + 1) * l.length) k (l.map f)
  | [], _ => SmL.nil
  | x :: l, h => (SmL.cons (h x List.mem_cons_self) (all_sm fun y hy => h y (List.mem_cons_of_mem _ hy))).mono (by rw [List.length_cons, Nat.mul_succ]; omega) (Nat.le_refl _)
theorem withKey_sm {k n : Nat} {ks : List Word} {w : Word} (h : n ≤ 100) : Sm (13 * n) (k + 1) (natsPD (withKey ks n w)) :=
  (nats_sm (k := k) fun i hi => by have := (mem_withKey.mp hi).1; omega).list.mono (by have := withKey_len ks n w; omega) (Nat.le_refl _)
theorem state_shows {tags : Word} {Gs : List Form} {Gk : Form} {ws : List Word} (ok : BoxOk tags Gs Gk) (wo : WsOk tags 10 ws) (hl : ws.length ≤ 10) : Shows (dState tags Gk ws) := by
  have key : ∀ i < ws.length, Sm 400 3 (PyData.list [wordL (ws.getD i []), wordL ((boxKeys tags Gk ws).getD i []), natsPD (withKey (boxKeys tags Gk ws) ws.length ((boxKeys tags Gk ws).getD i []))]) := fun i hi => by
    have e1 : ws.getD i [] = ws[i] := by
      rw [List.getD_eq_getElem?_getD, List.getElem?_eq_getElem hi]
      rfl
    rw [e1, boxKeys_get hi]
    have wi := wo.get hi
    have a := (word_sm (k := 1) (wd := ws[i]) fun t ht => ok.to.names t (wi.1 t ht)).list
    have b := (word_sm (k := 1) (wd := make tags Gk ws[i]) fun t ht => ok.to.names t (make_sub ok.gk.words wi.1 t ht)).list
    have bl := make_len (tags := tags) (wd := ws[i]) ok.gk.len
    have c := withKey_sm (k := 1) (n := ws.length) (ks := boxKeys tags Gk ws) (w := make tags Gk ws[i]) (by omega)
    exact (SmL.cons a (SmL.cons b (SmL.cons c .nil))).list.mono (by omega) (by omega)
  have a := all_sm (n := 400) (k := 3) (l := List.range ws.length) fun i hi => key i (List.mem_range.mp hi)
  have b := (all_sm (n := 130) (k := 1) (f := fun k => natsPD (withKey (boxKeys tags Gk ws) ws.length k)) (l := seenTo (boxKeys tags Gk ws) ws.length) fun w _ => (withKey_sm (k := 0) (by omega)).mono (by omega) (Nat.le_refl _)).list
  have bl := seenTo_len (boxKeys tags Gk ws) ws.length
  have b2 : Sm 1400 3 (.list ((seenTo (boxKeys tags Gk ws) ws.length).map fun k => natsPD (withKey (boxKeys tags Gk ws) ws.length k))) := b.mono (by omega) (by omega)
  refine Sm.shows ((a.app (SmL.cons b2 .nil)).list.mono ?_ (by omega))
  rw [List.length_range]
  omega
section
variable {P : Program} {w : World} {K : PySem.W.Frag} {mg : Str → Option Value} {base : Heap}
def ThreeAt (H : Hp) (t : Addr) (u v : Word) (l : List Nat) : Prop := ∃ p1 p2 p3, H t = some (.lst [V.ref p1, .ref p2, .ref p3]) ∧ WordAt H p1 u ∧ WordAt H p2 v ∧ H p3 = some (.lst (vN l))
theorem ThreeAt.same {H H' : Hp} {t : Addr} {u v : Word} {l : List Nat} (h : ThreeAt H t u v l) (s : Same H H') : ThreeAt H' t u v l := by
  obtain ⟨p1, p2, p3, h1, h2, h3, h4⟩ := h
  exact ⟨p1, p2, p3, s _ _ h1, Same.word s h2, Same.word s h3, s _ _ h4⟩
theorem ThreeAt.dv {H : Hp} {t : Addr} {u v : Word} {l : List Nat} (h : ThreeAt H t u v l) : Dv H (.ref t) (.list [wordL u, wordL v, natsPD l]) := by
  obtain ⟨p1, p2, p3, h1, h2, h3, h4⟩ := h
  exact .lst h1 (.cons (.lst h2 (word_dv u)) (.cons (.lst h3 (word_dv v)) (.cons (.lst h4 (nats_dv l)) .nil)))
theorem TalksAt.dv {H0 H : Hp} {r : Addr} {ks : List Word} {n : Nat} (t : TalksAt H0 H r ks n) : Dv H (.ref r) (.list ((seenTo ks n).map fun k => natsPD (withKey ks n k))) := by
  obtain ⟨h0, A, h1, h2⟩ := t
  refine .lst h1 ?_
  have key : ∀ l : List Word, (∀ k ∈ l, k ∈ seenTo ks n) → DvAll H (l.map fun k => V.ref (A k)) (l.map fun k => natsPD (withKey ks n k)) := by
    intro l
    induction l with
    | nil => exact fun _ => .nil
    | cons k l ih => exact fun h => .cons (.lst (h2.at_ k (h k List.mem_cons_self)) (nats_dv _)) (ih fun k' hk => h k' (List.mem_cons_of_mem _ hk))
  exact key _ fun _ h => h
def spState (CE CM : Addr) : Sp := fun vs H Q _ => ∃ (M : List Addr) (m ll : Addr) (tags : Word) (Gs : List Form) (Gk : Form) (ws : List Word), vs = [.ref m, .int (ws.length : Int)] ∧ BoxAt CE CM M H m ll tags Gs Gk ws ∧ BoxOk tags Gs Gk ∧ WsOk tags 10 ws ∧ ws.length ≤ 10 ∧
  ∀ H', Same H H' → Q (.str (dState tags Gk ws).shown) H'
theorem ok__law_state (X : TX K mg) (hB : ∃ mm, base.Ns sysModules mm) : QG.FnG P w K mg base CX0 6 X.d__law_state.a X.d__law_state.fd ["mailbox", "many"] (spState X.c_Eater X.c_Mailbox) := by
  have nd := sc__law_state.nd
  refine QG.fnG X.d__law_state.F sc__law_state (fun vs H Q E h => ?_) (fun cdv A outer s0 H vs Q E gg hr h => ?_)
  · obtain ⟨M, m, ll, tags, Gs, Gk, ws, rfl, _⟩ := h
    rfl
  · obtain ⟨M, m, ll, tags, Gs, Gk, ws, rfl, bx, ok, wo, hl, q⟩ := h
    have hg : (A.deeper (envOfC "_law_state" (defScope s__law_state) s0.heap.objs.size X.d__law_state.a cdv)).guards = some [] := gg
    refine ⟨_, (pss_one (ps_ret (pe_callTy (call_strV hg hr.units hB) (by rfl) X.n_str QB.bo_str (pa_cons (pe_op op_cat (pe_lc (own := [("k", 2)]) (g := gName 2) (tt := tYes) rfl nd (pi_range1 (by rfl) X.n_range (pa_cons (pv 1) pa_nil)) (blkOk_by (N := ["mailbox", "many", "k"]) (sc := defScope s__law_state) (by decide +kernel)) (fun _ _ _ _ _ => pg_name (i := 2) nd rfl (Or.inl rfl)) (fun _ _ _ _ _ => pts_nil) (fun _ _ _ _ _ => (pe_lst (pa_cons (QM2.pe_ixO (ok_Mailbox___getitem__ X) X.h_Mailbox___getitem__ (QM2.fn_of X.d_Mailbox___getitem__.F) (hr.mono (by decide)) X.d_Mailbox___getitem__.b pass0 (pv 0) (pv 2) (fun _ _ => by with_unfolding_all rfl)) (pa_cons (pe_meth (pv 0) X.cl_Mailbox X.h_Mailbox_key_of (ok_Mailbox_key_of X) (hr.mono (by decide)) X.d_Mailbox_key_of.b .nil pass0 (pa_cons (pv 2) pa_nil)) (pa_cons (pe_meth (pv 0) X.cl_Mailbox X.h_Mailbox_talk (ok_Mailbox_talk X) (hr.mono (by decide)) X.d_Mailbox_talk.b .nil pass0 (pa_cons (pv 2) pa_nil)) pa_nil)))))) (pe_lst (pa_cons (pe_meth0 (pv 0) X.cl_Mailbox X.h_Mailbox_talks (ok_Mailbox_talks X) (hr.mono (by decide)) X.d_Mailbox_talks.b .nil pass0) pa_nil))) pa_nil)))), ?_⟩
    try dsimp only [Cx.nox, Cx.wish, cxOf]
    clear hg
    have sh := state_shows ok wo hl
    have wo1 : WsOk tags 1000 ws := fun wd hw => ⟨(wo wd hw).1, by have := (wo wd hw).2; omega⟩
    obtain ⟨dx, pl, ke, ts, ho, _, _⟩ := boxObj bx
    refine ⟨_, rfl, (ws.length : Int), rfl, by omega, by omega, fun D nD => ?_⟩
    refine lc_it (walk_range (lo := 0) (n := ws.length)) (fun n H' => Same H H' ∧ ∃ ts : List Addr, ts.length = n ∧ H' D = some (.lst (ts.map V.ref)) ∧ Paired (fun t i => ThreeAt (hide [D] H') t (ws.getD i []) ((boxKeys tags Gk ws).getD i []) (withKey (boxKeys tags Gk ws) ws.length ((boxKeys tags Gk ws).getD i []))) ts (List.range n))
      ⟨same_new nD, [], rfl, upd_same, .nil⟩ (fun _ _ _ _ => True.intro) ?_ ?_
    · rintro i x H1' H1 hi ⟨s1, ts, htl, hD, hP⟩ ⟨rfl, rfl⟩
      have eI : (0 : Int) + (i : Int) = (i : Int) := Int.zero_add _
      refine ⟨rfl, _, rfl, _, rfl, m, dx, _, rfl, s1 _ _ ho, M, m, ll, tags, Gs, Gk, ws, i, by rw [← eI], bx.same s1, hi, fun p1 H2 s2 n2 w2 => ?_⟩
      have s12 := s1.trans s2
      refine ⟨_, rfl, m, dx, _, rfl, s12 _ _ ho, rfl, ?_⟩
      refine ⟨_, rfl, M, m, ll, tags, Gs, Gk, ws, i, by rw [← eI]; rfl, bx.same s12, hi, fun p2 H3 s3 n3 w3 => ?_⟩
      have s13 := s12.trans s3
      refine ⟨_, rfl, m, dx, _, rfl, s13 _ _ ho, rfl, ?_⟩
      refine ⟨_, rfl, M, m, ll, tags, Gs, Gk, ws, i, by rw [← eI]; rfl, bx.same s13, ok, wo1, hi, by omega, fun p3 H4 s4 n4 w4 => ?_⟩
      refine ⟨by show 3 ≤ sizeLine; decide, fun t nt => ?_⟩
      have s5 := same_new (o := .lst [V.ref p1, .ref p2, .ref p3]) nt
      have ht : (upd H4 t (.lst [V.ref p1, .ref p2, .ref p3])) t = some (.lst [V.ref p1, .ref p2, .ref p3]) := upd_same
      generalize upd H4 t (.lst [V.ref p1, .ref p2, .ref p3]) = H5 at s5 ht ⊢
      have s14 := (s2.trans s3).trans s4
      have s15 := s14.trans s5
      have d1 : p1 ∉ [D] := fun z => by rw [List.mem_singleton.mp z, hD] at n2; cases n2
      have d2 : p2 ∉ [D] := fun z => by rw [List.mem_singleton.mp z, s2 _ _ hD] at n3; cases n3
      have d3 : p3 ∉ [D] := fun z => by rw [List.mem_singleton.mp z, (s2.trans s3) _ _ hD] at n4; cases n4
      have d4 : t ∉ [D] := fun z => by rw [List.mem_singleton.mp z, s14 _ _ hD] at nt; cases nt
      have y6 : Same (hide [D] H5) (hide [D] (upd H5 D (.lst (ts.map V.ref ++ [V.ref t])))) := hide_mut List.mem_cons_self
      refine ⟨_, s15 _ _ hD, by rw [List.length_map, htl]; exact sz_lt (by omega), Same.mut (s1.trans s15) nD, ts ++ [t], by rw [List.length_append, htl]; rfl, by rw [upd_same, List.map_append]; rfl, ?_⟩
      rw [List.range_succ]
      refine Paired.snoc (L2.Paired.mapP hP fun _ _ z => (z.same (hide_same s15)).same y6) ⟨p1, p2, p3, y6 _ _ (hide_at d4 ht), y6 _ _ (hide_at d1 ?_), y6 _ _ (hide_at d2 ?_), y6 _ _ (hide_at d3 ?_)⟩
      · exact ((s3.trans s4).trans s5) _ _ w2
      · exact (s4.trans s5) _ _ w3
      · exact s5 _ _ w4
    · rintro H1 ⟨s1, ts, htl, hD, hP⟩
      refine ⟨_, rfl, m, dx, _, rfl, s1 _ _ ho, rfl, ?_⟩
      refine ⟨M, m, ll, tags, Gs, Gk, ws, rfl, bx.same s1, ok, wo1, by omega, fun r H2 s2 t2 => ?_⟩
      refine ⟨by show 1 ≤ sizeLine; decide, fun e ne => ?_⟩
      have s3 := same_new (o := .lst [V.ref r]) ne
      have he : (upd H2 e (.lst [V.ref r])) e = some (.lst [V.ref r]) := upd_same
      generalize upd H2 e (.lst [V.ref r]) = H3 at s3 he ⊢
      have s23 := s2.trans s3
      refine ⟨_, _, _, _, rfl, rfl, s23 _ _ hD, he, by rw [List.length_map, htl]; exact sz_le (by show _ + 1 ≤ _; omega), fun c nc => ?_⟩
      have s4 := same_new (o := .lst (ts.map V.ref ++ [V.ref r])) nc
      have s14 := s23.trans s4
      have dv : Dv (upd H3 c (.lst (ts.map V.ref ++ [V.ref r]))) (.ref c) (dState tags Gk ws) := by
        refine .lst upd_same (DvAll.app ?_ (.cons ((t2.same (s3.trans s4)).dv) .nil))
        have key : ∀ {ts2 : List Addr} {l : List Nat}, Paired (fun t i => ThreeAt (hide [D] H1) t (ws.getD i []) ((boxKeys tags Gk ws).getD i []) (withKey (boxKeys tags Gk ws) ws.length ((boxKeys tags Gk ws).getD i []))) ts2 l →
            DvAll (upd H3 c (.lst (ts.map V.ref ++ [V.ref r]))) (ts2.map V.ref) (l.map fun i => PyData.list [wordL (ws.getD i []), wordL ((boxKeys tags Gk ws).getD i []), natsPD (withKey (boxKeys tags Gk ws) ws.length ((boxKeys tags Gk ws).getD i []))]) := by
          intro ts2 l h
          induction h with
          | nil => exact .nil
          | cons h _ ih => exact .cons ((h.same hide_sub).same s14).dv ih
        exact key hP
      exact ⟨.ref c, _, c, rfl, rfl, dv, sh, q _ (s1.trans s14)⟩
end
end Law
end

section
set_option linter.all false
set_option autoImplicit false
/-! Qthen: one eater behind the other. -/
namespace QM
open PySem QB
/-- ways to standings that stand further on -/
def shift (by_ : Nat) (ws : Ways) : Ways := ws.map fun x => x.map (· + by_)
/-- the ways with which the second one goes on where the first one has stopped -/
def onward (tags : List Str) (B : Form) (word : Word) : Ways :=
  if (walk tags B word).2 = word.length then (stdOf B (walk tags B word).1).2 else tags.map fun _ => none
def joinWay : Option Nat → Option Nat → Option Nat
  | none, o => o
  | some n, _ => some n
def thenStd (tags : List Str) (B : Form) (n : Nat) (s : Std) : Std :=
  (wordOf B (walk tags B s.1).1 ++ s.1.drop (walk tags B s.1).2, (s.2.zip (shift n (onward tags B s.1))).map fun z => joinWay z.1 z.2)
def thenForm (tags : List Str) (A B : Form) : Form := A.map (thenStd tags B A.length) ++ B.map fun s => (s.1, shift A.length s.2)
section
variable {tags : List Str} {A B : Form}
theorem thenForm_len : (thenForm tags A B).length = A.length + B.length := by
  unfold thenForm
  rw [List.length_append, List.length_map, List.length_map]
theorem thenForm_fst {i : Nat} (h : i < A.length) : stdOf (thenForm tags A B) i = thenStd tags B A.length (stdOf A i) := by
  have e := stdOf_get h
  have e2 : (thenForm tags A B)[i]? = some (thenStd tags B A.length (stdOf A i)) := by
    unfold thenForm
    rw [List.getElem?_append_left (by rw [List.length_map]; exact h), List.getElem?_map, e]
    rfl
  unfold stdOf at e2 ⊢
  rw [List.getD_eq_getElem?_getD, e2]
  rfl
theorem thenForm_snd {j : Nat} (h : j < B.length) : stdOf (thenForm tags A B) (A.length + j) = ((stdOf B j).1, shift A.length (stdOf B j).2) := by
  have e := stdOf_get h
  have e2 : (thenForm tags A B)[A.length + j]? = some ((stdOf B j).1, shift A.length (stdOf B j).2) := by
    unfold thenForm
    rw [List.getElem?_append_right (by rw [List.length_map]; omega), List.length_map, Nat.add_sub_cancel_left, List.getElem?_map, e]
    rfl
  unfold stdOf at e2 ⊢
  rw [List.getD_eq_getElem?_getD, e2]
  rfl
theorem shift_len {n : Nat} {ws : Ways} : (shift n ws).length = ws.length := List.length_map _
theorem onward_len (g : Good tags B) {w : Word} (h : ∀ t ∈ w, t ∈ tags) : (onward tags B w).length = tags.length := by
  unfold onward
  split
  · exact g.std_len (walk_lt g h).1
  · exact List.length_map _
theorem way_shift {n : Nat} {s : Std} {t : Str} : way tags (s.1, shift n s.2) t = (way tags s t).map (· + n) := by
  have e := way_map tags s (fun x => x.map (· + n)) rfl t
  exact e
theorem way_then {n : Nat} {s : Std} {t : Str} (ht : t ∈ tags) (h1 : s.2.length = tags.length) (g : Good tags B) (hw : ∀ t ∈ s.1, t ∈ tags) :
    way tags (thenStd tags B n s) t = joinWay (way tags s t) ((way tags (s.1, onward tags B s.1) t).map (· + n)) := by
  have hlt := List.idxOf_lt_length_of_mem ht
  have ho := onward_len g hw
  have e1 : s.2[tags.idxOf t]? = some (way tags s t) := by
    unfold way ixOf
    rw [List.getElem?_eq_getElem (by omega)]
    rfl
  have e2 : (onward tags B s.1)[tags.idxOf t]? = some (way tags (s.1, onward tags B s.1) t) := by
    unfold way ixOf
    show _ = some ((onward tags B s.1)[tags.idxOf t]?).join
    rw [List.getElem?_eq_getElem (by omega)]
    rfl
  have e3 : (shift n (onward tags B s.1))[tags.idxOf t]? = some ((way tags (s.1, onward tags B s.1) t).map (· + n)) := by
    unfold shift
    rw [List.getElem?_map, e2]
    rfl
  have e4 : (s.2.zip (shift n (onward tags B s.1)))[tags.idxOf t]? = some (way tags s t, (way tags (s.1, onward tags B s.1) t).map (· + n)) := by
    rw [List.getElem?_zip_eq_some]
    exact ⟨e1, e3⟩
  show (((s.2.zip (shift n (onward tags B s.1))).map fun z => joinWay z.1 z.2)[tags.idxOf t]?).join = _
  rw [List.getElem?_map, e4]
  rfl
theorem way_none {s : Std} {t : Str} (h : ∀ x ∈ s.2, x = none) : way tags s t = none := by
  unfold way ixOf
  cases e : s.2[tags.idxOf t]? with
  | none => rfl
  | some x =>
    rw [h x (List.mem_of_getElem? e)]
    rfl
/-- standings that are good, with words of the tags -/
structure GoodW (tags : List Str) (F : Form) : Prop extends Good tags F where
  sub : ∀ s ∈ F, ∀ t ∈ s.1, t ∈ tags
theorem eff_snd (gA : Good tags A) (gB : Good tags B) : ∀ (u : Word) (j : Nat), j < B.length → eff tags (thenForm tags A B) (A.length + j) u = eff tags B j u
  | [], j, h => by
    show wordOf _ _ = wordOf _ _
    rw [wordOf_std (by rw [thenForm_len]; omega), thenForm_snd h, wordOf_std h]
  | t :: u, j, h => by
    have hl : A.length + j < (thenForm tags A B).length := by rw [thenForm_len]; omega
    rw [eff_cons, eff_cons, wayAt_std hl, thenForm_snd h, way_shift, wayAt_std h]
    cases e : way tags (stdOf B j) t with
    | none =>
      show wordOf _ _ ++ _ = wordOf _ _ ++ _
      rw [wordOf_std hl, thenForm_snd h, wordOf_std h]
    | some m =>
      have hm := gB.std_to h (way_mem e)
      show eff tags (thenForm tags A B) (m + A.length) u = eff tags B m u
      rw [Nat.add_comm]
      exact eff_snd gA gB u m hm
theorem walkFrom_off (F : Form) : ∀ (w : Word) (a k : Nat), walkFrom tags F a k w = ((walkFrom tags F a 0 w).1, (walkFrom tags F a 0 w).2 + k)
  | [], a, k => by
    unfold walkFrom
    rw [Nat.zero_add]
  | t :: w, a, k => by
    unfold walkFrom
    cases wayAt tags F a t with
    | none => show (a, k) = (a, 0 + k); rw [Nat.zero_add]
    | some n =>
      show walkFrom tags F n (k + 1) w = ((walkFrom tags F n (0 + 1) w).1, (walkFrom tags F n (0 + 1) w).2 + k)
      rw [walkFrom_off F w n (k + 1), walkFrom_off F w n (0 + 1)]
      show (_, _) = (_, _)
      congr 1
      omega
/-- behind a word that is taken whole the rest is gone on with -/
theorem eff_append (g : Good tags B) : ∀ (w : Word) (i : Nat) (u : Word), i < B.length → (∀ t ∈ w, t ∈ tags) → eff tags B i (w ++ u) = (if (walkFrom tags B i 0 w).2 = w.length then eff tags B (walkFrom tags B i 0 w).1 u else wordOf B (walkFrom tags B i 0 w).1 ++ w.drop (walkFrom tags B i 0 w).2 ++ u)
  | [], i, u, hi, h => by
    unfold walkFrom
    rfl
  | t :: w, i, u, hi, h => by
    rw [List.cons_append, eff_cons]
    unfold walkFrom
    cases e : wayAt tags B i t with
    | none =>
      show wordOf B i ++ t :: (w ++ u) = if (0 : Nat) = (t :: w).length then _ else wordOf B i ++ (t :: w).drop 0 ++ u
      rw [if_neg (by simp)]
      simp
    | some n =>
      have hn : n < B.length := by
        rw [wayAt_std hi] at e
        exact g.std_to hi (way_mem e)
      show eff tags B n (w ++ u) = _
      rw [eff_append g w n u hn fun s hs => h s (List.mem_cons_of_mem _ hs)]
      show _ = if (walkFrom tags B n (0 + 1) w).2 = (t :: w).length then eff tags B (walkFrom tags B n (0 + 1) w).1 u else wordOf B (walkFrom tags B n (0 + 1) w).1 ++ (t :: w).drop (walkFrom tags B n (0 + 1) w).2 ++ u
      rw [walkFrom_off B w n (0 + 1)]
      generalize walkFrom tags B n 0 w = z
      obtain ⟨z1, z2⟩ := z
      by_cases hz : z2 = w.length
      · rw [if_pos hz, if_pos (by show z2 + (0 + 1) = w.length + 1; omega)]
      · rw [if_neg hz, if_neg (by show ¬ z2 + (0 + 1) = w.length + 1; omega)]
        rfl
theorem eff_then (gA : GoodW tags A) (gB : Good tags B) : ∀ (u : Word) (i : Nat), i < A.length → (∀ t ∈ u, t ∈ tags) → eff tags (thenForm tags A B) i u = eff tags B 0 (eff tags A i u)
  | [], i, hi, h => by
    have hs : ∀ t ∈ (stdOf A i).1, t ∈ tags := gA.sub _ (mem_of (stdOf_get hi))
    show wordOf _ _ = eff tags B 0 (wordOf A i)
    rw [wordOf_std (by rw [thenForm_len]; omega), thenForm_fst hi, wordOf_std hi]
    have e := walkFrom_eff tags B (stdOf A i).1 0 0
    rw [Nat.sub_zero] at e
    exact e
  | t :: u, i, hi, h => by
    have hs : ∀ t ∈ (stdOf A i).1, t ∈ tags := gA.sub _ (mem_of (stdOf_get hi))
    have ht := h t List.mem_cons_self
    have hu : ∀ s ∈ u, s ∈ tags := fun s hs => h s (List.mem_cons_of_mem _ hs)
    have hl : i < (thenForm tags A B).length := by rw [thenForm_len]; omega
    rw [eff_cons, wayAt_std hl, thenForm_fst hi, way_then ht (gA.std_len hi) gB hs, eff_cons, wayAt_std hi]
    cases e : way tags (stdOf A i) t with
    | some n =>
      have hn := gA.std_to hi (way_mem e)
      exact eff_then gA gB u n hn hu
    | none =>
      have go : ∀ (o : Option Nat) (d : Word), (∀ b, o = some b → eff tags (thenForm tags A B) b u = d) → (o = none → wordOf (thenForm tags A B) i ++ t :: u = d) → (match joinWay none o with
        | none => wordOf (thenForm tags A B) i ++ t :: u
        | some b => eff tags (thenForm tags A B) b u) = d := fun o d h1 h2 => by
        cases o with
        | none => exact h2 rfl
        | some b => exact h1 b rfl
      refine go _ _ (fun b hb => ?_) fun hb => ?_
      all_goals
        show _ = eff tags B 0 (wordOf A i ++ t :: u)
        rw [wordOf_std hi, eff_append gB _ 0 _ gB.pos hs]
        show _ = if (walk tags B (stdOf A i).1).2 = (stdOf A i).1.length then eff tags B (walk tags B (stdOf A i).1).1 (t :: u) else wordOf B (walk tags B (stdOf A i).1).1 ++ (stdOf A i).1.drop (walk tags B (stdOf A i).1).2 ++ t :: u
        have hw := walk_lt gB hs
        unfold onward at hb
      · by_cases hz : (walk tags B (stdOf A i).1).2 = (stdOf A i).1.length
        · rw [if_pos hz] at hb ⊢
          have e5 : way tags ((stdOf A i).1, (stdOf B (walk tags B (stdOf A i).1).1).2) t = way tags (stdOf B (walk tags B (stdOf A i).1).1) t := rfl
          rw [e5] at hb
          rw [eff_cons, wayAt_std hw.1]
          cases e6 : way tags (stdOf B (walk tags B (stdOf A i).1).1) t with
          | none =>
            rw [e6] at hb
            cases hb
          | some m =>
            rw [e6] at hb
            have hb : some (m + A.length) = some b := hb
            rw [← Option.some.inj hb, Nat.add_comm]
            exact eff_snd gA.toGood gB u m (gB.std_to hw.1 (way_mem e6))
        · rw [if_neg hz] at hb
          have e7 : way tags ((stdOf A i).1, tags.map fun _ => none) t = none := way_none fun x hx => by
            obtain ⟨_, _, e⟩ := List.mem_map.mp hx
            exact e.symm
          rw [e7] at hb
          cases hb
      · rw [wordOf_std hl, thenForm_fst hi]
        show (wordOf B (walk tags B (stdOf A i).1).1 ++ (stdOf A i).1.drop (walk tags B (stdOf A i).1).2) ++ t :: u = _
        by_cases hz : (walk tags B (stdOf A i).1).2 = (stdOf A i).1.length
        · rw [if_pos hz] at hb ⊢
          have e5 : way tags ((stdOf A i).1, (stdOf B (walk tags B (stdOf A i).1).1).2) t = way tags (stdOf B (walk tags B (stdOf A i).1).1) t := rfl
          rw [e5] at hb
          rw [eff_cons, wayAt_std hw.1]
          cases e6 : way tags (stdOf B (walk tags B (stdOf A i).1).1) t with
          | none =>
            show _ = wordOf B (walk tags B (stdOf A i).1).1 ++ t :: u
            rw [hz, List.drop_length, List.append_nil]
          | some m =>
            rw [e6] at hb
            cases hb
        · rw [if_neg hz]
theorem make_then (gA : GoodW tags A) (gB : Good tags B) {u : Word} (h : ∀ t ∈ u, t ∈ tags) : make tags (thenForm tags A B) u = make tags B (make tags A u) := by
  rw [make_eff, make_eff, make_eff]
  exact eff_then gA gB u 0 gA.pos h
theorem thenForm_good (gA : GoodW tags A) (gB : Good tags B) (hs : A.length + B.length ≤ 5000) : Good tags (thenForm tags A B) := by
  refine ⟨by rw [thenForm_len]; have := gA.pos; omega, fun s hs => ?_, fun s hs n hn => ?_, by rw [thenForm_len]; exact hs⟩
  · rcases List.mem_append.mp hs with h | h
    · obtain ⟨s', h1, rfl⟩ := List.mem_map.mp h
      show ((s'.2.zip (shift A.length (onward tags B s'.1))).map _).length = _
      rw [List.length_map, List.length_zip, shift_len, onward_len gB (gA.sub s' h1), gA.len s' h1, Nat.min_self]
    · obtain ⟨s', h1, rfl⟩ := List.mem_map.mp h
      show (shift A.length s'.2).length = _
      rw [shift_len, gB.len s' h1]
  · rw [thenForm_len]
    rcases List.mem_append.mp hs with h | h
    · obtain ⟨s', h1, rfl⟩ := List.mem_map.mp h
      obtain ⟨z, hz, e⟩ := List.mem_map.mp hn
      obtain ⟨z1, z2⟩ := z
      obtain ⟨m1, m2⟩ := List.of_mem_zip hz
      cases z1 with
      | some m =>
        have e : some m = some n := e
        have e := Option.some.inj e
        have := gA.to s' h1 m m1
        omega
      | none =>
        have e : z2 = some n := e
        subst e
        obtain ⟨x, hx, ex⟩ := List.mem_map.mp m2
        cases x with
        | none => cases ex
        | some m =>
          have ex : some (m + A.length) = some n := ex
          have ex := Option.some.inj ex
          unfold onward at hx
          split at hx
          · have := gB.std_to (walk_lt gB (gA.sub s' h1)).1 hx
            omega
          · obtain ⟨_, _, e⟩ := List.mem_map.mp hx
            cases e
    · obtain ⟨s', h1, rfl⟩ := List.mem_map.mp h
      obtain ⟨x, hx, ex⟩ := List.mem_map.mp hn
      cases x with
      | none => cases ex
      | some m =>
        have ex : some (m + A.length) = some n := ex
        have ex := Option.some.inj ex
        have := gB.to s' h1 m hx
        omega
end
end QM
end

section
set_option Elab.async false
set_option linter.all false
set_option maxRecDepth 100000
set_option maxHeartbeats 4000000
namespace Law
open PySem PySem.Spec PyProof.Rows L2 LamX QB QM QV
theorem make_one {tags w u : Word} : make tags [(w, List.replicate tags.length none)] u = w ++ u := by
  rw [make_eff]
  cases u with
  | nil => show wordOf _ 0 = _; rw [List.append_nil]; rfl
  | cons t u =>
    rw [eff_cons]
    have e : wayAt tags [(w, List.replicate tags.length none)] 0 t = none := by
      rw [wayAt_std (by show 0 < 1; decide)]
      exact way_none fun x hx => List.eq_of_mem_replicate hx
    rw [e]
    rfl
theorem make_box {CE CM x dx p0 re : Addr} {H : Hp} {R : Hp → Prop} {E : XK} {es : List Addr} {tags : Word} {Gs : List Form} {Gk : Form} (hx : H x = none) (hd : H dx = none) (hne : dx ≠ x) (hp : ProgsAt CE H p0 es tags Gs) (hk : EatAt CE H re tags Gk) (okw : OkWord tags) (h1 : 1 ≤ Gs.length) (h6 : Gs.length ≤ 6)
    (k : ∀ pl ll H', Same H H' → H x = none → H pl = none → H ll = none → pl ≠ ll → x ≠ ll → H' x = some (.ins CM dx (boxFs pl re ll)) → H' pl = some (.lst (es.map V.ref)) → H' ll = some (.lst []) → R H') :
    spInitM CE CM [.ref x, .ref p0, .ref re] (upd (upd H dx (.own x)) x (.ins CM dx [])) (fun v H2 => v = .non ∧ R H2) E := by
  have sM : Same H (upd (upd H dx (.own x)) x (.ins CM dx [])) := Same.new (same_new hd) ((upd_ne hne.symm).trans hx)
  refine ⟨x, dx, p0, re, es, tags, Gs, Gk, rfl, upd_same, hp.same sM, hk.same sM, okw, h1, h6, fun pl ll H' xE npl nll ne hx' hpl hll => ⟨rfl, ?_⟩⟩
  refine k pl ll H' (fun c o h => xE c o (fun z => ?_) (sM _ _ h)) hx (sM.free npl) (sM.free nll) ne (fun z => ?_) hx' hpl hll
  · rw [List.mem_singleton.mp z, hx] at h
    cases h
  · rw [z, hll] at hx'
    cases hx'
theorem oneOk {tags u : Word} (to : TagsOk tags) (hu : ∀ t ∈ u, t ∈ tags) (hl : u.length ≤ 8) : FormOk tags [(u, List.replicate tags.length none)] :=
  ⟨by show 1 ≤ 1; omega, by show 1 ≤ 30; omega, fun s hs => by
    rw [List.mem_singleton.mp hs]
    exact ⟨hl, hu, List.length_replicate, fun m hm => nomatch (List.eq_of_mem_replicate hm)⟩⟩
theorem newFresh {H : Hp} {p : Addr} (h : H p = none) : Fresh H p := .of h
section
variable {P : Program} {w : World} {K : PySem.W.Frag} {mg : Str → Option Value} {base : Heap}
theorem dlet {K : PySem.W.Frag} {H : Hp} {p : Addr} (h : H p = some (.lst [V.str "let"])) : Dp K H (.ref p) (.list [.str "let"]) := .lst (SqL.of h) (.cons (.str _) .nil)
theorem dmany {K : PySem.W.Frag} {H : Hp} {p : Addr} {s : Str} {i : Int} (h : H p = some (.lst [V.str s, .int i])) : Dp K H (.ref p) (.list [.str s, .int i]) := .lst (SqL.of h) (.cons (.str _) (.cons (.int _) .nil))
theorem ans1 {tags : Word} {G : Form} {t0 : Str} (mk : ∀ wd : Word, (∀ t ∈ wd, t ∈ tags) → make tags G wd = t0 :: wd) {ws : List Word} {i : Nat} (h : ∀ t ∈ ws.getD i [], t ∈ tags) : ansOf tags [G] ws i 0 = t0 :: ws.getD i [] := mk _ h
theorem flat_vS (t : Str) : ∀ n : Nat, (List.replicate n [V.str t]).flatten = vS (List.replicate n t)
  | 0 => rfl
  | n + 1 => by
    rw [List.replicate_succ, List.flatten_cons, flat_vS t n, List.replicate_succ]
    rfl
theorem hide_new1 {H H' : Hp} {l : Addr} (n : H l = none) (s : Same H H') : Same H (hide [l] H') := fun b o h => hide_at (fun z => by rw [List.mem_singleton.mp z, n] at h; cases h) (s _ _ h)
theorem same_exc {H H1 H2 : Hp} {l : Addr} (s : Same H H1) (x : Exc [l] H1 H2) (n : H l = none) : Same H H2 := fun b o h => x b o (fun z => by rw [List.mem_singleton.mp z, n] at h; cases h) (s _ _ h)
theorem atI_last' {ys : List V} {v : V} (h : ys.getLast? = some v) : atI ys (-1) = some v := by
  have pos : 1 ≤ ys.length := by
    cases ys with
    | nil => cases h
    | cons _ _ => rw [List.length_cons]; omega
  have e : ixN ys.length (-1) = some (ys.length - 1) := by
    unfold ixN
    rw [if_neg (by decide), if_pos (by omega)]
    congr 1
    omega
  unfold atI
  rw [e]
  rw [List.getLast?_eq_getElem?] at h
  exact h
theorem numD_yes {i n : Nat} (h : i < n) : numD 0 ((n : Int) - 1) (.int (i : Int)) = true := decide_eq_true (by omega)
theorem numD_no {i n : Nat} (h : n ≤ i) : numD 0 ((n : Int) - 1) (.int (i : Int)) = false := decide_eq_false (by omega)
section
variable {X : TX K mg} {M : List Addr} {H : Hp} {m ll : Addr} {tags : Word} {G : Form} {ws : List Word} {i : Nat} {Q : VK} {E : XK}
theorem told1_ok (bx : BoxAt X.c_Eater X.c_Mailbox M H m ll tags [G] G ws) (ok : BoxOk tags [G] G) (wo : WsOk tags 200 ws) (T0 : ∀ b ∈ M, H b ≠ none) (hl : ws.length ≤ 1000) (hi : i < ws.length) (hlen : (ansOf tags [G] ws i 0).length ≤ 200)
    (q : ∀ p H1 H', BoxAt X.c_Eater X.c_Mailbox M H1 m ll tags [G] G (ws ++ [ansOf tags [G] ws i 0]) → Exc [ll] H H1 → H1 ll ≠ none → Same H1 H' → H' p = some (.lst [V.str "let"]) → Q (.ref p) H') : spToldO X [.int 1, .ref m, .int (i : Int), .int 0] H Q E := by
  obtain ⟨dx, pl, ke, ts, ho, _, _⟩ := boxObj bx
  refine ⟨1, m, dx, pl, ke, ll, .int (i : Int), .int 0, .let_, fun H1 => BoxAt X.c_Eater X.c_Mailbox M H1 m ll tags [G] G (ws ++ [ansOf tags [G] ws i 0]) ∧ Exc [ll] H H1 ∧ H1 ll ≠ none, rfl, ho, fun R E' _ let_ => .inr (.inl ⟨rfl, M, m, ll, tags, [G], G, ws, .int (i : Int), .int 0, .int (i : Int), .int 0, rfl, bx, ok, wo, T0, hl, .int _, .int _, fun z => ?_, fun _ z => ?_, fun i' j ei ej h1 h2 => ?_⟩), fun z => absurd rfl z, fun _ p H1 H' ⟨b1, b2, b3⟩ s _ hp => q p H1 H' b1 b2 b3 s hp⟩
  · rw [numD_yes hi] at z
    cases z
  · cases z
  · have : i' = i := by
      have := V.int.inj ei
      omega
    subst this
    have : j = 0 := by
      have := V.int.inj ej
      omega
    subst this
    exact ⟨fun z => absurd hlen (by omega), fun _ H' b x n => let_ rfl _ H' ⟨b, x, n⟩⟩
theorem told2_ok (bx : BoxAt X.c_Eater X.c_Mailbox M H m ll tags [G] G ws) (ok : BoxOk tags [G] G) (wo : WsOk tags 200 ws) (T0 : ∀ b ∈ M, H b ≠ none) (hl : ws.length ≤ 1000) (hi : i < ws.length) (hlen : (ansOf tags [G] ws i 0).length ≤ 200)
    (q : ∀ p H', Same H H' → H' p = some (.lst [V.str "let"]) → Q (.ref p) H') : spToldO X [.int 2, .ref m, .int (i : Int), .int 0] H Q E := by
  obtain ⟨dx, pl, ke, ts, ho, _, _⟩ := boxObj bx
  refine ⟨2, m, dx, pl, ke, ll, .int (i : Int), .int 0, .let_, fun H1 => Same H H1, rfl, ho, fun R E' _ let_ => .inr (.inr (.inl ⟨rfl, M, m, ll, tags, [G], G, ws, .int (i : Int), .int 0, .int (i : Int), .int 0, rfl, bx, ok, wo, T0, hl, .int _, .int _, fun z => ?_, fun _ z => ?_, fun i' j ei ej h1 h2 => ?_⟩)), fun z => absurd rfl z, fun _ p H1 H' s1 s _ hp => q p H' (s1.trans s) hp⟩
  · rw [numD_yes hi] at z
    cases z
  · cases z
  · have : i' = i := by
      have := V.int.inj ei
      omega
    subst this
    have : j = 0 := by
      have := V.int.inj ej
      omega
    subst this
    exact ⟨fun z => absurd hlen (by omega), fun _ p H' s => let_ rfl _ H' s⟩
theorem told_many {way : Nat} (hw : way = 1 ∨ way = 2) (bx : BoxAt X.c_Eater X.c_Mailbox M H m ll tags [G] G ws) (ok : BoxOk tags [G] G) (wo : WsOk tags 200 ws) (T0 : ∀ b ∈ M, H b ≠ none) (hl : ws.length ≤ 1000) (hi : i < ws.length) (hlen : 200 < (ansOf tags [G] ws i 0).length)
    (q : ∀ p H', Same H H' → H' p = some (.lst [V.str "many", .int 200]) → Q (.ref p) H') : spToldO X [.int (way : Int), .ref m, .int (i : Int), .int 0] H Q E := by
  obtain ⟨dx, pl, ke, ts, ho, _, _⟩ := boxObj bx
  have go : ∀ {R0 : List Addr → Hp → Addr → Addr → Word → List Form → Form → List Word → Nat → Nat → VK → Prop} {R : VK} {E' : XK}, (∀ H1, Same H H1 → BadO X .many H1 E') → spAnswX X.c_Eater X.c_Mailbox X.e_InvalidNumber X.e_TooMany R0 [.ref m, .int (i : Int), .int 0] H R E' := fun {R0 R E'} bad => by
    refine ⟨M, m, ll, tags, [G], G, ws, .int (i : Int), .int 0, .int (i : Int), .int 0, rfl, bx, ok, wo, T0, hl, .int _, .int _, fun z => ?_, fun _ z => ?_, fun i' j ei ej h1 h2 => ?_⟩
    · rw [numD_yes hi] at z
      cases z
    · cases z
    · have : i' = i := by
        have := V.int.inj ei
        omega
      subst this
      have : j = 0 := by
        have := V.int.inj ej
        omega
      subst this
      exact ⟨fun _ H1 s1 => bad H1 s1, fun z => absurd hlen (by omega)⟩
  refine ⟨way, m, dx, pl, ke, ll, .int (i : Int), .int 0, .many, fun _ => False, rfl, ho, fun R E' bad _ => ?_, fun _ p H' s _ hp => q p H' s hp, fun z => nomatch z⟩
  rcases hw with rfl | rfl
  · exact .inr (.inl ⟨rfl, go bad⟩)
  · exact .inr (.inr (.inl ⟨rfl, go bad⟩))
theorem told_bad (bx : BoxAt X.c_Eater X.c_Mailbox M H m ll tags [G] G ws) (ok : BoxOk tags [G] G) (wo : WsOk tags 200 ws) (T0 : ∀ b ∈ M, H b ≠ none) (hl : ws.length ≤ 1000) (hi : ws.length ≤ i)
    (q : ∀ p H', Same H H' → H' p = some (.lst [V.str "number", .int (i : Int)]) → Q (.ref p) H') : spToldO X [.int 1, .ref m, .int (i : Int), .int 0] H Q E := by
  obtain ⟨dx, pl, ke, ts, ho, _, _⟩ := boxObj bx
  refine ⟨1, m, dx, pl, ke, ll, .int (i : Int), .int 0, .number (.int (i : Int)), fun _ => False, rfl, ho, fun R E' bad _ => .inr (.inl ⟨rfl, M, m, ll, tags, [G], G, ws, .int (i : Int), .int 0, .int (i : Int), .int 0, rfl, bx, ok, wo, T0, hl, .int _, .int _, fun _ => bad H (Same.refl H), fun z => ?_, fun i' j ei ej h1 h2 => ?_⟩), fun _ p H' s _ hp => q p H' s hp, fun z => nomatch z⟩
  · rw [numD_no hi] at z
    cases z
  · have : i' = i := by
      have := V.int.inj ei
      omega
    omega
end
/-- a mailbox just made -/
theorem box_new {CE CM : Addr} {H H' : Hp} {x dx pl ll re e : Addr} {tags : Word} {G : Form} (s : Same H H') (nl : H ll = none) (npl : pl ≠ ll) (nx : x ≠ ll) (hx : H' x = some (.ins CM dx (boxFs pl re ll))) (hp : H' pl = some (.lst ([e].map V.ref))) (hl : H' ll = some (.lst [])) (he : EatAt CE H e tags G) (hr : EatAt CE H re tags G) : BoxAt CE CM [ll] H' x ll tags [G] G [] := by
  have y := hide_new1 nl s
  exact ⟨dx, pl, re, [e], [], hide_at (by simpa using nx) hx, ⟨hide_at (by simpa using npl) hp, .cons (he.same y) .nil⟩, hr.same y, hl, .nil, List.mem_singleton.mpr rfl⟩
def spLong (T : List (Addr × Str)) : Sp := fun vs H Q _ => ∃ (a : Addr) (tags : Word), vs = [.ref a] ∧ WordAt H a tags ∧ TagsOk tags ∧ Tabs T H ∧ ∀ H', QB.Ext T H H' → Q (.bl true) H'
theorem ok__law_long_right (X : TX K mg) (TB : LamX.TabB base mg X.lam_c X.lam_P) : FnOk P w K mg base CX0 9 X.d__law_long_right.a X.d__law_long_right.fd ["tags"] (spLong (Tof X)) := by
  have nd := sc__law_long_right.nd
  refine X.d__law_long_right.F.ok sc__law_long_right (fun vs H Q E h => ?_) (fun cdv A outer s0 H vs Q E hr h => ?_)
  · obtain ⟨a, tags, rfl, _⟩ := h
    rfl
  · obtain ⟨a, tags, rfl, ha, to, tb, q⟩ := h
    refine ⟨_, (pss_cons (ps_set (i := 1) nd rfl (Or.inl rfl) (pe_make X.mk_Eater (ok_Eater___init__ X TB) (hr.mono (by decide)) rfl X.m_Eater X.d_Eater___init__.b .nil pass0 (pa_cons (pv 0) (pa_cons (pe_lst (pa_cons (pe_tup (pa_cons (pe_lst (pa_cons (pe_ix (QB.ix_listK K) (pv 0) pe_int (fun _ _ => rfl)) pa_nil)) (pa_cons (pe_op op_rep (pe_lst (pa_cons pe_non pa_nil)) (pe_callB (QB.call_lenK K) (by rfl) X.n_len PySem.boot_len (pa_cons (pv 0) pa_nil))) pa_nil))) pa_nil)) pa_nil)))) (pss_cons (ps_set (i := 2) nd rfl (Or.inl rfl) (pe_make X.mk_Mailbox (ok_Mailbox___init__ X) (hr.mono (by decide)) rfl X.m_Mailbox X.d_Mailbox___init__.b .nil pass0 (pa_cons (pe_lst (pa_cons (pv 1) pa_nil)) (pa_cons (pv 1) pa_nil)))) (pss_cons (ps_expr (pe_meth (pv 2) X.cl_Mailbox X.h_Mailbox_begin (ok_Mailbox_begin X) (hr.mono (by decide)) X.d_Mailbox_begin.b .nil pass0 (pa_cons (pe_op op_rep (pe_lst (pa_cons (pe_ix (QB.ix_listK K) (pv 0) (pe_un un_neg pe_int) (fun _ _ => rfl)) pa_nil)) pe_int) pa_nil))) (pss_cons (ps_if (pt_cmpR op_ne (pe_meth (pe_make X.mk_Mailbox (ok_Mailbox___init__ X) (hr.mono (by decide)) rfl X.m_Mailbox X.d_Mailbox___init__.b .nil pass0 (pa_cons (pe_lst (pa_cons (pv 1) pa_nil)) (pa_cons (pv 1) pa_nil))) X.cl_Mailbox X.h_Mailbox_begin (ok_Mailbox_begin X) (hr.mono (by decide)) X.d_Mailbox_begin.b .nil pass0 (pa_cons (pe_op op_rep (pe_lst (pa_cons (pe_ix (QB.ix_listK K) (pv 0) pe_int (fun _ _ => rfl)) pa_nil)) pe_int) pa_nil)) pe_int (nomark _)) (pss_one (ps_ret pe_bl)) pss_nil) (pss_cons (ps_if (PW.pt (pw_or (pt_cmpR (QB.op_neDK K hr.units) (pe_call (ok__law_told X) (hr.mono (by decide)) rfl X.d__law_told.mg X.d__law_told.F.kp X.d__law_told.b .nil pass0 (pa_cons pe_int (pa_cons (pv 2) (pa_cons pe_int (pa_cons pe_int pa_nil))))) (pe_lst (pa_cons pe_str pa_nil)) (nomark _)) (pw_or1 (pt_cmpR (QB.op_neDK K hr.units) (pe_call (ok__law_told X) (hr.mono (by decide)) rfl X.d__law_told.mg X.d__law_told.F.kp X.d__law_told.b .nil pass0 (pa_cons pe_int (pa_cons (pv 2) (pa_cons pe_int (pa_cons pe_int pa_nil))))) (pe_lst (pa_cons pe_str (pa_cons pe_int pa_nil))) (nomark _))))) (pss_one (ps_ret pe_bl)) pss_nil) (pss_cons (ps_if (PW.pt (pw_or (pt_cmpR (QB.op_neDK K hr.units) (pe_call (ok__law_told X) (hr.mono (by decide)) rfl X.d__law_told.mg X.d__law_told.F.kp X.d__law_told.b .nil pass0 (pa_cons pe_int (pa_cons (pv 2) (pa_cons pe_int (pa_cons pe_int pa_nil))))) (pe_lst (pa_cons pe_str (pa_cons pe_int pa_nil))) (nomark _)) (pw_or1 (pt_cmpR (QB.op_neDK K hr.units) (pe_call (ok__law_told X) (hr.mono (by decide)) rfl X.d__law_told.mg X.d__law_told.F.kp X.d__law_told.b .nil pass0 (pa_cons pe_int (pa_cons (pv 2) (pa_cons pe_int (pa_cons pe_int pa_nil))))) (pe_lst (pa_cons pe_str pa_nil)) (nomark _))))) (pss_one (ps_ret pe_bl)) pss_nil) (pss_cons (ps_set (i := 3) nd rfl (Or.inl rfl) (pe_make X.mk_Mailbox (ok_Mailbox___init__ X) (hr.mono (by decide)) rfl X.m_Mailbox X.d_Mailbox___init__.b .nil pass0 (pa_cons (pe_lst (pa_cons (pv 1) pa_nil)) (pa_cons (pv 1) pa_nil)))) (pss_cons (ps_if (PW.pt (pw_or (pt_cmpR (QB.op_neDK K hr.units) (pe_call (ok__law_told X) (hr.mono (by decide)) rfl X.d__law_told.mg X.d__law_told.F.kp X.d__law_told.b .nil pass0 (pa_cons pe_int (pa_cons (pv 3) (pa_cons pe_int (pa_cons pe_int pa_nil))))) (pe_lst (pa_cons pe_str (pa_cons pe_int pa_nil))) (nomark _)) (pw_or (pt_cmpR op_ne (pe_meth (pv 3) X.cl_Mailbox X.h_Mailbox_begin (ok_Mailbox_begin X) (hr.mono (by decide)) X.d_Mailbox_begin.b .nil pass0 (pa_cons (pe_lst pa_nil) pa_nil)) pe_int (nomark _)) (pw_or (pt_cmpR op_ne (pe_meth (pv 3) X.cl_Mailbox X.h_Mailbox_answer (ok_Mailbox_answer X) (hr.mono (by decide)) X.d_Mailbox_answer.b .nil pass0 (pa_cons pe_int (pa_cons pe_int pa_nil))) pe_int (nomark _)) (pw_or1 (pt_cmpR (QB.op_neDK K hr.units) (QM2.pe_ixO (ok_Mailbox___getitem__ X) X.h_Mailbox___getitem__ (QM2.fn_of X.d_Mailbox___getitem__.F) (hr.mono (by decide)) X.d_Mailbox___getitem__.b pass0 (pv 3) pe_int (fun _ _ => by with_unfolding_all rfl)) (pe_slice (QB.sl_listK K) (pv 0) po_none (po_some pe_int)) (nomark _))))))) (pss_one (ps_ret pe_bl)) pss_nil) (pss_one (ps_ret (pe_and (pe_cmpR op_eq (pe_callB (QO.call_lenO (ok_Mailbox___len__ X) X.h_Mailbox___len__ (hr.mono (by decide)) X.d_Mailbox___len__.b pass0) (by rfl) X.n_len PySem.boot_len (pa_cons (pv 2) pa_nil)) pe_int (nomark _)) (pe_and (pe_cmpR op_eq (pe_callB (QB.call_lenK K) (by rfl) X.n_len PySem.boot_len (pa_cons (pe_meth (pv 2) X.cl_Mailbox X.h_Mailbox_key_of (ok_Mailbox_key_of X) (hr.mono (by decide)) X.d_Mailbox_key_of.b .nil pass0 (pa_cons pe_int pa_nil)) pa_nil)) pe_int (nomark _)) (pe_one (pe_cmpR (QB.op_eqDK K hr.units) (pe_call (ok__law_told X) (hr.mono (by decide)) rfl X.d__law_told.mg X.d__law_told.F.kp X.d__law_told.b .nil pass0 (pa_cons pe_int (pa_cons (pv 2) (pa_cons pe_int (pa_cons pe_int pa_nil))))) (pe_lst (pa_cons pe_str (pa_cons pe_int pa_nil))) (nomark _))))))))))))))), ?_⟩
    try dsimp only [Cx.nox, Cx.wish, cxOf]
    have htl := to.len
    have htp := to.pos
    have e0 : tags[0]? = some (tags[0]'(by omega)) := List.getElem?_eq_getElem (by omega)
    have m0 : tags[0]'(by omega) ∈ tags := List.getElem_mem _
    generalize tags[0]'(by omega) = t0 at e0 m0
    have el : tags.getLast? = some (tags.getLast (fun z => by rw [z] at htp; exact absurd htp (by decide))) := List.getLast?_eq_some_getLast _
    have ml := List.getLast_mem (fun z : tags = [] => by rw [z] at htp; exact absurd htp (by decide))
    generalize tags.getLast _ = tl at el ml
    have el2 : (vS tags).getLast? = some (V.str tl) := by
      unfold vS
      rw [List.getLast?_map, el]
      rfl
    -- the eater
    refine ⟨_, rfl, ?_⟩
    refine ⟨_, rfl, a, _, _, _, rfl, rfl, SqL.of ha, atI_nat (j := 0) (vS_get e0), by show 1 ≤ sizeLine; decide, fun q1 n1 => ?_⟩
    have s1 := same_new (o := .lst [V.str t0]) n1
    have h1 : WordAt (upd H q1 (.lst [V.str t0])) q1 [t0] := upd_same
    generalize upd H q1 (.lst [V.str t0]) = H1 at s1 h1 ⊢
    refine ⟨by show 1 ≤ sizeLine; decide, fun q2 n2 => ?_⟩
    have s2 := same_new (o := .lst [V.non]) n2
    have h2 : (upd H1 q2 (.lst [V.non])) q2 = some (.lst [V.non]) := upd_same
    generalize upd H1 q2 (.lst [V.non]) = H2 at s2 h2 ⊢
    refine ⟨_, rfl, _, _, rfl, .inl (SqL.of ((s1.trans s2) _ _ ha)), q2, ((vS tags).length : Int), _, rfl, rfl, h2, by omega, by rw [vS_len]; omega, by rw [vS_len]; show 1 * ((tags.length : Nat) : Int).toNat ≤ sizeLine; exact sz_le (by omega), fun q3 n3 => ?_⟩
    have s3 := same_new (o := .lst (List.replicate ((vS tags).length : Int).toNat [V.non]).flatten) n3
    have h3 : WaysAt (upd H2 q3 (.lst (List.replicate ((vS tags).length : Int).toNat [V.non]).flatten)) q3 (List.replicate tags.length none) := by
      show upd _ _ _ _ = _
      rw [upd_same, vS_len, show ((tags.length : Nat) : Int).toNat = tags.length from by omega]
      congr 2
      generalize tags.length = n
      induction n with
      | zero => rfl
      | succ n ih =>
        rw [List.replicate_succ, List.flatten_cons, ih, List.replicate_succ]
        rfl
    generalize upd H2 q3 (.lst (List.replicate ((vS tags).length : Int).toNat [V.non]).flatten) = H3 at s3 h3 ⊢
    refine ⟨by show 2 ≤ sizeLine; decide, fun q4 n4 => ?_⟩
    have s4 := same_new (o := .tup [V.ref q1, .ref q3]) n4
    have h4 : (upd H3 q4 (.tup [V.ref q1, .ref q3])) q4 = some (.tup [V.ref q1, .ref q3]) := upd_same
    generalize upd H3 q4 (.tup [V.ref q1, .ref q3]) = H4 at s4 h4 ⊢
    refine ⟨by show 1 ≤ sizeLine; decide, fun q5 n5 => ?_⟩
    have s5 := same_new (o := .lst [V.ref q4]) n5
    have h5 : (upd H4 q5 (.lst [V.ref q4])) q5 = some (.lst [V.ref q4]) := upd_same
    generalize upd H4 q5 (.lst [V.ref q4]) = H5 at s5 h5 ⊢
    have s15 := (s2.trans s3).trans (s4.trans s5)
    have s05 := s1.trans s15
    have fo := oneOk (u := [t0]) to (fun t ht => List.mem_singleton.mp ht ▸ m0) (by show 1 ≤ 8; omega)
    have hF : FormAt H5 q5 [([t0], List.replicate tags.length none)] := ⟨[q4], h5, .cons ⟨q1, q3, s5 _ _ h4, Same.word s15 h1, (s4.trans s5) _ _ h3⟩ .nil⟩
    refine fun e dx he hd hne => ?_
    have sM : Same H5 (upd (upd H5 dx (.own e)) e (.ins X.c_Eater dx [])) := Same.new (same_new hd) ((upd_ne hne.symm).trans he)
    have t5 : Tabs (Tof X) H5 := tb.ext s05
    refine ⟨e, dx, a, q5, tags, _, H5, rfl, upd_same, Same.word sM (Same.word s05 ha), Same.form sM hF, to, fo, t5.ext sM, .of sM, .of he, fun a' b' L' H6 e6 t6 n6 => ⟨rfl, ?_⟩⟩
    have x6 : QB.Ext (Tof X) H H6 := (QB.Ext.of s05).trans e6
    have hE : EatAt X.c_Eater H6 e tags (least tags [([t0], List.replicate tags.length none)]) := n6.at_
    have ha6 := x6.word ha
    have mk : ∀ wd : Word, (∀ t ∈ wd, t ∈ tags) → make tags (least tags [([t0], List.replicate tags.length none)]) wd = t0 :: wd := fun wd h => by
      rw [least_make fo.good h, make_one]
      rfl
    have fm : FmOk tags (least tags [([t0], List.replicate tags.length none)]) 1 := ⟨least_good fo.good, least_wordsF to fo, fun s hs => by
      obtain ⟨s', h1, h2⟩ := least_word fo.good hs
      rw [h2, List.mem_singleton.mp h1]
      exact Nat.le_refl _⟩
    generalize least tags [([t0], List.replicate tags.length none)] = G at hE mk fm
    have ok : BoxOk tags [G] G := ⟨to, fun G' h => List.mem_singleton.mp h ▸ ⟨fm.good, fm.words, fun s hs => by have := fm.len s hs; omega⟩, fm, Nat.le_refl _, by show 1 ≤ 6; omega⟩
    have okw : OkWord tags := fun t ht => (to.names t ht).txt
    clear n6 t6 e6 sM t5 hF h5 h4 h3 h2 h1 s05 s15 s5 s4 s3 s2 s1 he hd hne n1 n2 n3 n4 n5
    -- the mailbox
    refine ⟨_, rfl, by show 1 ≤ sizeLine; decide, fun g1 ng1 => ?_⟩
    have z7 := same_new (o := .lst [V.ref e]) ng1
    have hg7 : (upd H6 g1 (.lst [V.ref e])) g1 = some (.lst ([e].map V.ref)) := upd_same
    generalize upd H6 g1 (.lst [V.ref e]) = H7 at z7 hg7 ⊢
    have hE7 := hE.same z7
    refine ⟨_, rfl, fun m dx1 k1 k2 k3 => ?_⟩
    refine make_box (Gs := [G]) k1 k2 k3 ⟨hg7, .cons hE7 .nil⟩ hE7 okw (Nat.le_refl _) (by show 1 ≤ 6; omega) fun pl ll H8 z8 nm np nl npl mll hm hp hl => ?_
    have b8 : BoxAt X.c_Eater X.c_Mailbox [ll] H8 m ll tags [G] G [] := box_new z8 nl npl mll hm hp hl hE7 hE7
    have n8 : H8 ll ≠ none := by rw [hl]; exact fun z => nomatch z
    have z68 := z7.trans z8
    have nl6 : H6 ll = none := z7.free nl
    clear hp hl npl nm np k1 k2 k3 hg7
    have tsub : ∀ (n : Nat) (t : Str), t ∈ tags → ∀ u ∈ List.replicate n t, u ∈ tags := fun n t ht u hu => by
      rw [List.eq_of_mem_replicate hu]
      exact ht
    -- begun
    refine ⟨_, rfl, m, dx1, _, rfl, hm, rfl, ?_⟩
    refine ⟨_, rfl, _, rfl, a, _, _, _, rfl, rfl, SqL.of (z68 _ _ ha6), atI_last' el2, by show 1 ≤ sizeLine; decide, fun g2 ng2 => ?_⟩
    have z9 := same_new (o := .lst [V.str tl]) ng2
    have h9 : (upd H8 g2 (.lst [V.str tl])) g2 = some (.lst [V.str tl]) := upd_same
    generalize upd H8 g2 (.lst [V.str tl]) = H9 at z9 h9 ⊢
    refine ⟨g2, (199 : Int), _, rfl, rfl, h9, by decide, by decide, by show 1 * 199 ≤ sizeLine; decide, fun g3 ng3 => ?_⟩
    have z10 := same_new (o := .lst (List.replicate (199 : Int).toNat [V.str tl]).flatten) ng3
    have h10 : WordAt (upd H9 g3 (.lst (List.replicate (199 : Int).toNat [V.str tl]).flatten)) g3 (List.replicate 199 tl) := by
      show upd _ _ _ _ = _
      rw [upd_same, flat_vS]
      rfl
    generalize upd H9 g3 (.lst (List.replicate (199 : Int).toNat [V.str tl]).flatten) = H10 at z10 h10 ⊢
    have z810 := z9.trans z10
    have tr1 : ∀ {H' : Hp}, H' ll ≠ none → ∀ b ∈ [ll], H' b ≠ none := fun h b hb => List.mem_singleton.mp hb ▸ h
    have keep : ∀ {Ha Hb : Hp}, Same Ha Hb → Ha ll ≠ none → Hb ll ≠ none := fun {Ha Hb} s n => by
      cases e : Ha ll with
      | none => exact absurd e n
      | some o =>
        rw [s _ _ e]
        exact fun z => nomatch z
    refine ⟨[ll], m, ll, g3, tags, [G], G, [], List.replicate 199 tl, rfl, b8.same z810, ok, tr1 (keep z810 n8), h10, tsub 199 tl ml, by rw [List.length_replicate]; omega, by show 0 ≤ 1000; omega, fun H11 b11 x11 n11 => ?_⟩
    have z611 : Same H6 H11 := same_exc (z68.trans z810) x11 nl6
    have b11 : BoxAt X.c_Eater X.c_Mailbox [ll] H11 m ll tags [G] G [List.replicate 199 tl] := b11
    clear b8 h9 h10 hm z9 z10 z810 x11 n8 hE7 z7 z8
    -- another
    refine ⟨_, rfl, by show 1 ≤ sizeLine; decide, fun g4 ng4 => ?_⟩
    have y1 := same_new (o := .lst [V.ref e]) ng4
    have hg4 : (upd H11 g4 (.lst [V.ref e])) g4 = some (.lst ([e].map V.ref)) := upd_same
    generalize upd H11 g4 (.lst [V.ref e]) = H12 at y1 hg4 ⊢
    have hE12 := (hE.same z611).same y1
    refine ⟨_, rfl, fun m2 dx2 k1 k2 k3 => ?_⟩
    refine make_box (Gs := [G]) k1 k2 k3 ⟨hg4, .cons hE12 .nil⟩ hE12 okw (Nat.le_refl _) (by show 1 ≤ 6; omega) fun pl2 ll2 H13 y2 nm2 np2 nl2 npl2 mll2 hm2 hp2 hl2 => ?_
    have c13 : BoxAt X.c_Eater X.c_Mailbox [ll2] H13 m2 ll2 tags [G] G [] := box_new y2 nl2 npl2 mll2 hm2 hp2 hl2 hE12 hE12
    have y12 := y1.trans y2
    refine ⟨m2, dx2, _, rfl, hm2, rfl, ?_⟩
    refine ⟨_, rfl, a, _, _, _, rfl, rfl, SqL.of ((z611.trans y12) _ _ ha6), atI_nat (j := 0) (vS_get e0), by show 1 ≤ sizeLine; decide, fun g5 ng5 => ?_⟩
    have y3 := same_new (o := .lst [V.str t0]) ng5
    have h14 : (upd H13 g5 (.lst [V.str t0])) g5 = some (.lst [V.str t0]) := upd_same
    generalize upd H13 g5 (.lst [V.str t0]) = H14 at y3 h14 ⊢
    refine ⟨g5, (200 : Int), _, rfl, rfl, h14, by decide, by decide, by show 1 * 200 ≤ sizeLine; decide, fun g6 ng6 => ?_⟩
    have y4 := same_new (o := .lst (List.replicate (200 : Int).toNat [V.str t0]).flatten) ng6
    have h15 : WordAt (upd H14 g6 (.lst (List.replicate (200 : Int).toNat [V.str t0]).flatten)) g6 (List.replicate 200 t0) := by
      show upd _ _ _ _ = _
      rw [upd_same, flat_vS]
      rfl
    generalize upd H14 g6 (.lst (List.replicate (200 : Int).toNat [V.str t0]).flatten) = H15 at y4 h15 ⊢
    have y34 := y3.trans y4
    refine ⟨[ll2], m2, ll2, g6, tags, [G], G, [], List.replicate 200 t0, rfl, c13.same y34, ok, (fun b hb => by rw [List.mem_singleton.mp hb, y34 _ _ hl2]; exact (fun z => nomatch z)), h15, tsub 200 t0 m0, by rw [List.length_replicate]; omega, by show 0 ≤ 1000; omega, fun H16 c16 x16 n16 => ?_⟩
    have y11 : Same H11 H16 := same_exc (y12.trans y34) x16 (y1.free nl2)
    refine ⟨rfl, _, rfl, ?_⟩
    rw [decide_eq_true (show V.int ((([] : List Word).length : Nat) : Int) = V.int 0 from rfl)]
    refine iteF ?_
    have b16 := b11.same y11
    have n16' := keep y11 n11
    have z616 := z611.trans y11
    clear c16 x16 n16 c13 hm2 hp2 hl2 npl2 nm2 np2 h14 h15 y1 y2 y3 y4 y12 y34 y11 k1 k2 k3 hg4 hE12 b11 n11 z611
    have l199 : (List.replicate 199 tl).length = 199 := List.length_replicate
    have w1 : WsOk tags 200 [List.replicate 199 tl] := fun wd hw => by
      rw [List.mem_singleton.mp hw]
      exact ⟨tsub 199 tl ml, by rw [l199]; omega⟩
    have a10 : ansOf tags [G] [List.replicate 199 tl] 0 0 = t0 :: List.replicate 199 tl := mk _ (tsub 199 tl ml)
    have la : (t0 :: List.replicate 199 tl).length = 200 := by rw [List.length_cons, l199]
    have sA : ∀ t ∈ t0 :: List.replicate 199 tl, t ∈ tags := fun t ht => by
      rcases List.mem_cons.mp ht with rfl | ht
      · exact m0
      · exact tsub 199 tl ml t ht
    have dl : SeqAt.shaped (.list [.str "let"]) = true ∧ PyData.eqv (.list [.str "let"]) (.list [.str "let"]) = true := ⟨by decide +kernel, by decide +kernel⟩
    have dm : SeqAt.shaped (.list [.str "many", .int 200]) = true ∧ PyData.eqv (.list [.str "many", .int 200]) (.list [.str "many", .int 200]) = true := ⟨by decide +kernel, by decide +kernel⟩
    -- answered, and again
    refine ⟨_, rfl, ?_⟩
    try dsimp only [tNil, tCons, tC]
    refine told1_ok (i := 0) b16 ok w1 (tr1 n16') (by show 1 ≤ 1000; omega) (by show 0 < 1; omega) (by rw [a10, la]; omega) fun p1 Ha H17 b17 x17 n17 s17 hp1 => ?_
    rw [a10] at b17
    have z617 : Same H6 H17 := (same_exc z616 x17 nl6).trans s17
    have b17 : BoxAt X.c_Eater X.c_Mailbox [ll] H17 m ll tags [G] G [List.replicate 199 tl, t0 :: List.replicate 199 tl] := b17.same s17
    have n17 := keep s17 n17
    refine ⟨by show 1 ≤ sizeLine; decide, fun p2 np2 => ?_⟩
    have u1 := same_new (o := .lst [V.str "let"]) np2
    refine ⟨_, _, dlet (u1 _ _ hp1), dlet upd_same, dl.1, dl.1, ?_⟩
    rw [dl.2]
    refine ⟨_, rfl, iteF ?_⟩
    generalize upd H17 p2 (.lst [V.str "let"]) = H18 at u1 ⊢
    have b18 := b17.same u1
    have n18 := keep u1 n17
    have z618 := z617.trans u1
    clear b17 b16 x17 s17 hp1 u1 np2
    have w2 : WsOk tags 200 [List.replicate 199 tl, t0 :: List.replicate 199 tl] := fun wd hw => by
      rcases List.mem_cons.mp hw with rfl | hw
      · exact ⟨tsub 199 tl ml, by rw [l199]; omega⟩
      · rw [List.mem_singleton.mp hw]
        exact ⟨sA, by rw [la]; omega⟩
    have a11 : ansOf tags [G] [List.replicate 199 tl, t0 :: List.replicate 199 tl] 1 0 = t0 :: t0 :: List.replicate 199 tl := mk _ sA
    have lb : 200 < (ansOf tags [G] [List.replicate 199 tl, t0 :: List.replicate 199 tl] 1 0).length := by rw [a11, List.length_cons, la]; omega
    have a10' : ansOf tags [G] [List.replicate 199 tl, t0 :: List.replicate 199 tl] 0 0 = t0 :: List.replicate 199 tl := mk _ (tsub 199 tl ml)
    refine ⟨_, rfl, ?_⟩
    try dsimp only [tNil, tCons, tC]
    refine told_many (way := 1) (i := 1) (.inl rfl) b18 ok w2 (tr1 n18) (by show 2 ≤ 1000; omega) (by show 1 < 2; omega) lb fun p1 H19 s19 hp1 => ?_
    refine ⟨by show 2 ≤ sizeLine; decide, fun p2 np2 => ?_⟩
    have u1 := same_new (o := .lst [V.str "many", .int 200]) np2
    refine ⟨_, _, dmany (u1 _ _ hp1), dmany upd_same, dm.1, dm.1, ?_⟩
    rw [dm.2]
    refine ⟨_, rfl, iteF ?_⟩
    generalize upd H19 p2 (.lst [V.str "many", .int 200]) = H20 at u1 ⊢
    have s20 := s19.trans u1
    have b20 := b18.same s20
    have n20 := keep s20 n18
    have z620 := z618.trans s20
    clear b18 hp1 u1 np2 s19 s20
    refine ⟨_, rfl, ?_⟩
    try dsimp only [tNil, tCons, tC]
    refine told_many (way := 2) (i := 1) (.inr rfl) b20 ok w2 (tr1 n20) (by show 2 ≤ 1000; omega) (by show 1 < 2; omega) lb fun p1 H21 s21 hp1 => ?_
    refine ⟨by show 2 ≤ sizeLine; decide, fun p2 np2 => ?_⟩
    have u1 := same_new (o := .lst [V.str "many", .int 200]) np2
    refine ⟨_, _, dmany (u1 _ _ hp1), dmany upd_same, dm.1, dm.1, ?_⟩
    rw [dm.2]
    refine ⟨_, rfl, iteF ?_⟩
    generalize upd H21 p2 (.lst [V.str "many", .int 200]) = H22 at u1 ⊢
    have s22 := s21.trans u1
    have b22 := b20.same s22
    have n22 := keep s22 n20
    have z622 := z620.trans s22
    clear b20 hp1 u1 np2 s21 s22 n20 z620
    refine ⟨_, rfl, ?_⟩
    try dsimp only [tNil, tCons, tC]
    refine told2_ok (i := 0) b22 ok w2 (tr1 n22) (by show 2 ≤ 1000; omega) (by show 0 < 2; omega) (by rw [a10', la]; omega) fun p1 H23 s23 hp1 => ?_
    refine ⟨by show 1 ≤ sizeLine; decide, fun p2 np2 => ?_⟩
    have u1 := same_new (o := .lst [V.str "let"]) np2
    refine ⟨_, _, dlet (u1 _ _ hp1), dlet upd_same, dl.1, dl.1, ?_⟩
    rw [dl.2]
    refine ⟨_, rfl, iteF ?_⟩
    generalize upd H23 p2 (.lst [V.str "let"]) = H24 at u1 ⊢
    have s24 := s23.trans u1
    have b24 := b22.same s24
    have n24 := keep s24 n22
    have z624 := z622.trans s24
    clear b22 hp1 u1 np2 s23 s24 n22 z622
    -- one more box
    refine ⟨_, rfl, by show 1 ≤ sizeLine; decide, fun g4 ng4 => ?_⟩
    have y1 := same_new (o := .lst [V.ref e]) ng4
    have hg4 : (upd H24 g4 (.lst [V.ref e])) g4 = some (.lst ([e].map V.ref)) := upd_same
    generalize upd H24 g4 (.lst [V.ref e]) = H25 at y1 hg4 ⊢
    have hE25 := (hE.same z624).same y1
    refine ⟨_, rfl, fun m3 dx3 k1 k2 k3 => ?_⟩
    refine make_box (Gs := [G]) k1 k2 k3 ⟨hg4, .cons hE25 .nil⟩ hE25 okw (Nat.le_refl _) (by show 1 ≤ 6; omega) fun pl3 ll3 H26 y2 nm3 np3 nl3 npl3 mll3 hm3 hp3 hl3 => ?_
    have c26 : BoxAt X.c_Eater X.c_Mailbox [ll3] H26 m3 ll3 tags [G] G [] := box_new y2 nl3 npl3 mll3 hm3 hp3 hl3 hE25 hE25
    have nn26 : H26 ll3 ≠ none := by rw [hl3]; exact fun z => nomatch z
    have y26 := y1.trans y2
    have nl24 := y1.free nl3
    have tr3 : ∀ {H' : Hp}, H' ll3 ≠ none → ∀ b ∈ [ll3], H' b ≠ none := fun h b hb => List.mem_singleton.mp hb ▸ h
    have keep3 : ∀ {Ha Hb : Hp}, Same Ha Hb → Ha ll3 ≠ none → Hb ll3 ≠ none := fun {Ha Hb} s n => by
      cases e : Ha ll3 with
      | none => exact absurd e n
      | some o =>
        rw [s _ _ e]
        exact fun z => nomatch z
    refine ⟨_, rfl, ?_⟩
    try dsimp only [tNil, tCons, tC]
    have dn0 : SeqAt.shaped (.list [.str "number", .int 0]) = true ∧ PyData.eqv (.list [.str "number", .int 0]) (.list [.str "number", .int 0]) = true := ⟨by decide +kernel, by decide +kernel⟩
    have dn2 : SeqAt.shaped (.list [.str "number", .int 2]) = true ∧ PyData.eqv (.list [.str "number", .int 2]) (.list [.str "number", .int 2]) = true := ⟨by decide +kernel, by decide +kernel⟩
    refine told_bad (i := 0) c26 ok (fun _ h => nomatch h) (tr3 nn26) (by show 0 ≤ 1000; omega) (Nat.le_refl _) fun p1 H27 s27 hp1 => ?_
    have hp1 : H27 p1 = some (.lst [V.str "number", .int 0]) := hp1
    refine ⟨by show 2 ≤ sizeLine; decide, fun p2 np2 => ?_⟩
    have u1 := same_new (o := .lst [V.str "number", .int 0]) np2
    refine ⟨_, _, dmany (u1 _ _ hp1), dmany upd_same, dn0.1, dn0.1, ?_⟩
    rw [dn0.2]
    refine ⟨_, rfl, iteF ?_⟩
    generalize upd H27 p2 (.lst [V.str "number", .int 0]) = H28 at u1 ⊢
    have s28 := s27.trans u1
    have c28 := c26.same s28
    have nn28 := keep3 s28 nn26
    have y28 := y26.trans s28
    clear c26 hp1 u1 np2 s27 s28 nn26 y26 y1 y2 hm3 hp3 hl3 nm3 np3 npl3 mll3 k1 k2 k3 hg4 hE25
    obtain ⟨dxa, pla, kea, tsa, hoa, _, _⟩ := boxObj c28
    refine ⟨_, rfl, m3, dxa, _, rfl, hoa, rfl, ?_⟩
    refine ⟨by show 0 ≤ sizeLine; decide, fun g5 ng5 => ?_⟩
    have u1 := same_new (o := .lst []) ng5
    have hg5 : WordAt (upd H28 g5 (.lst [])) g5 [] := upd_same
    generalize upd H28 g5 (.lst []) = H29 at u1 hg5 ⊢
    have c29 := c28.same u1
    refine ⟨[ll3], m3, ll3, g5, tags, [G], G, [], [], rfl, c29, ok, tr3 (keep3 u1 nn28), hg5, (fun _ h => nomatch h), by show 0 ≤ 200; omega, by show 0 ≤ 1000; omega, fun H30 c30 x30 n30 => ?_⟩
    have y30 : Same H24 H30 := same_exc (y28.trans u1) x30 nl24
    clear c28 c29 hoa u1 hg5 ng5 nn28 y28 x30
    refine ⟨rfl, _, rfl, ?_⟩
    rw [decide_eq_true (show V.int ((([] : List Word).length : Nat) : Int) = V.int 0 from rfl)]
    refine iteF ?_
    have c30 : BoxAt X.c_Eater X.c_Mailbox [ll3] H30 m3 ll3 tags [G] G [[]] := c30
    obtain ⟨dxa, pla, kea, tsa, hoa, _, _⟩ := boxObj c30
    refine ⟨_, rfl, m3, dxa, _, rfl, hoa, rfl, ?_⟩
    try dsimp only [tNil, tCons, tC]
    refine ⟨[ll3], m3, ll3, tags, [G], G, [[]], 0, 0, rfl, c30, ok, (fun wd hw => by
      rw [List.mem_singleton.mp hw]
      exact ⟨(fun _ h => nomatch h), by show 0 ≤ 100; omega⟩), tr3 n30, by show 0 < 1; omega, by show 0 < 1; omega, by show 1 ≤ 1000; omega, fun H31 c31 x31 n31 => ?_⟩
    have y31 : Same H24 H31 := same_exc y30 x31 nl24
    clear c30 hoa x31 y30 n30
    refine ⟨rfl, _, rfl, ?_⟩
    rw [decide_eq_true (show V.int ((([[]] : List Word).length : Nat) : Int) = V.int 1 from rfl)]
    refine iteF ?_
    have a00 : ansOf tags [G] [[]] 0 0 = [t0] := mk [] (fun _ h => nomatch h)
    rw [a00] at c31
    have c31 : BoxAt X.c_Eater X.c_Mailbox [ll3] H31 m3 ll3 tags [G] G [[], [t0]] := c31
    obtain ⟨dxa, pla, kea, tsa, hoa, _, _⟩ := boxObj c31
    refine ⟨_, rfl, m3, dxa, _, rfl, hoa, ?_⟩
    refine ⟨[ll3], m3, ll3, tags, [G], G, [[], [t0]], 1, rfl, c31, by show 1 < 2; omega, fun g6 H32 s32 ng6 hg6 => ?_⟩
    have hg6 : WordAt H32 g6 [t0] := hg6
    refine ⟨_, rfl, _, rfl, a, _, rfl, SqL.of ((z624.trans (y31.trans s32)) _ _ ha6), fun g7 ng7 => ?_⟩
    have u1 := same_new (o := .lst (cutV (vS tags) none (some 1))) ng7
    have e7 : cutV (vS tags) none (some 1) = [V.str t0] := by
      obtain ⟨r, rfl⟩ : ∃ r, tags = t0 :: r := by
        cases tags with
        | nil => cases e0
        | cons b r => exact ⟨r, by cases e0; rfl⟩
      exact (cut_take (vS (t0 :: r)) 1).trans rfl
    have y32 := (y31.trans s32).trans u1
    have hg8 : (upd H32 g7 (.lst (cutV (vS tags) none (some 1)))) g7 = some (.lst [V.str t0]) := by rw [upd_same, e7]
    have d1 : SeqAt.shaped (.list [.str t0]) = true ∧ PyData.eqv (.list [.str t0]) (.list [.str t0]) = true := ⟨shaped_word (w := [t0]) (fun t ht => List.mem_singleton.mp ht ▸ okw t0 m0), (show PyData.eqv (.list (txts [t0])) (.list (txts [t0])) = true from by
      rw [PyData.eqv]
      exact (eqvAll_txts _ _).trans (decide_eq_true rfl))⟩
    refine ⟨_, _, .lst (SqL.of (u1 _ _ hg6)) (.cons (.str _) .nil), .lst (SqL.of hg8) (.cons (.str _) .nil), d1.1, d1.1, ?_⟩
    rw [d1.2]
    refine ⟨_, rfl, iteF ?_⟩
    generalize upd H32 g7 (.lst (cutV (vS tags) none (some 1))) = H33 at y32 ⊢
    have b33 := b24.same y32
    have n33 := keep y32 n24
    have z633 := z624.trans y32
    clear c31 hoa y31 s32 ng6 hg6 ng7 u1 hg8 y32 n31 b24 n24 z624
    obtain ⟨dxm, plm, kem, tsm, hom, _, _⟩ := boxObj b33
    refine ⟨_, rfl, m, dxm, _, rfl, hom, [ll], m, ll, tags, [G], G, _, rfl, b33, 2, rfl, by decide, ?_⟩
    refine ⟨rfl, _, rfl, ?_⟩
    rw [decide_eq_true (show V.int (([List.replicate 199 tl, t0 :: List.replicate 199 tl].length : Nat) : Int) = V.int 2 from rfl), if_pos rfl]
    refine ⟨_, rfl, m, dxm, _, rfl, hom, rfl, ?_⟩
    refine ⟨[ll], m, ll, tags, [G], G, _, 1, rfl, b33, by show 1 < 2; omega, fun g8 H34 s34 ng8 hg8 => ?_⟩
    have kk : ((boxKeys tags G [List.replicate 199 tl, t0 :: List.replicate 199 tl]).getD 1 []).length = 201 := by
      show (make tags G (t0 :: List.replicate 199 tl)).length = 201
      rw [mk _ sA, List.length_cons, la]
    refine ⟨g8, _, rfl, .inl (SqL.of hg8), ?_⟩
    refine ⟨rfl, _, rfl, ?_⟩
    rw [vS_len, kk, decide_eq_true (show V.int ((201 : Nat) : Int) = V.int 201 from rfl), if_pos rfl]
    have b34 := b33.same s34
    have n34 := keep s34 n33
    have z634 := z633.trans s34
    clear b33 n33 z633 hg8 ng8 s34 hom
    refine ⟨_, rfl, ?_⟩
    try dsimp only [tNil, tCons, tC]
    refine told_bad (i := 2) b34 ok w2 (tr1 n34) (by show 2 ≤ 1000; omega) (by show 2 ≤ 2; omega) fun p1 H35 s35 hp1 => ?_
    have hp1 : H35 p1 = some (.lst [V.str "number", .int 2]) := hp1
    refine ⟨by show 2 ≤ sizeLine; decide, fun p2 np2 => ?_⟩
    have u1 := same_new (o := .lst [V.str "number", .int 2]) np2
    refine ⟨_, _, dmany (u1 _ _ hp1), dmany upd_same, dn2.1, dn2.1, ?_⟩
    rw [dn2.2]
    exact q _ (x6.trans (.of (z634.trans (s35.trans u1))))
end
end Law
end

section
set_option Elab.async false
set_option linter.all false
set_option maxRecDepth 100000
set_option maxHeartbeats 4000000
namespace Law
open PySem PySem.Spec PyProof.Rows L2 LamX QB QM
theorem hide_excL {M N : List Addr} {H H' : Hp} (h : ∀ n ∈ N, n ∈ M) (x : Exc N H H') : Same (hide M H) (hide M H') := fun b o z => by
  obtain ⟨n, z⟩ := hide_get z
  exact hide_at n (x b o (fun y => n (h b y)) z)
theorem BoxAt.exc {CE CM : Addr} {M N : List Addr} {H H' : Hp} {m ll : Addr} {tags : Word} {Gs : List Form} {Gk : Form} {ws : List Word} (b : BoxAt CE CM M H m ll tags Gs Gk ws) (h : ∀ n ∈ N, n ∈ M) (x : Exc N H H') (n : ll ∉ N) : BoxAt CE CM M H' m ll tags Gs Gk ws := by
  obtain ⟨dx, pl, ke, es, ts, b⟩ := b
  exact ⟨dx, pl, ke, es, ts, b.move (hide_excL h x) ((x _ _ n b.lst).trans b.lst.symm)⟩
theorem PileAt.exc {N : List Addr} {H H' : Hp} {p : Addr} (h : PileAt H p) (x : Exc N H H') (n : p ∉ N) : PileAt H' p := by
  obtain ⟨_, _, _, h⟩ := h
  exact ⟨_, _, _, x _ _ n h⟩
theorem WsOk.snoc {tags : Word} {c : Nat} {ws : List Word} {wd : Word} (h : WsOk tags c ws) (h1 : ∀ t ∈ wd, t ∈ tags) (h2 : wd.length ≤ c) : WsOk tags c (ws ++ [wd]) := fun u hu => by
  rcases List.mem_append.mp hu with hu | hu
  · exact h u hu
  · rw [List.mem_singleton.mp hu]
    exact ⟨h1, h2⟩
theorem TagsOk.rev {tags : Word} (h : TagsOk tags) : TagsOk tags.reverse :=
  ⟨by rw [List.length_reverse]; exact h.pos, by rw [List.length_reverse]; exact h.len, List.pairwise_reverse.mpr (h.nd.imp fun e => Ne.symm e), fun t ht => h.names t (List.mem_reverse.mp ht)⟩
/-! the heap without some lists and without tables -/
def hideT (M : List Addr) (H : Hp) : Hp := fun a => if a ∈ M then none else match H a with
  | some (.tbl _) => none
  | o => o
theorem hideT_at {M : List Addr} {a : Addr} {H : Hp} {o : HO} (n : a ∉ M) (h : H a = some o) (nt : ∀ ps, o ≠ .tbl ps := by intro _ z; cases z) : hideT M H a = some o := by
  unfold hideT
  rw [if_neg n, h]
  cases o with
  | tbl ps => exact absurd rfl (nt ps)
  | _ => rfl
theorem hideT_get {M : List Addr} {a : Addr} {H : Hp} {o : HO} (h : hideT M H a = some o) : a ∉ M ∧ H a = some o ∧ ∀ ps, o ≠ .tbl ps := by
  unfold hideT at h
  by_cases e : a ∈ M
  · rw [if_pos e] at h
    cases h
  · rw [if_neg e] at h
    refine ⟨e, ?_⟩
    cases q : H a with
    | none =>
      rw [q] at h
      cases h
    | some u =>
      rw [q] at h
      cases u with
      | tbl ps => cases h
      | _ =>
        cases h
        exact ⟨rfl, fun _ z => nomatch z⟩
theorem hideT_exc {M N : List Addr} {H H' : Hp} (h : ∀ n ∈ N, n ∈ M) (x : Exc N H H') : Same (hideT M H) (hideT M H') := fun b o z => by
  obtain ⟨n, z, t⟩ := hideT_get z
  exact hideT_at n (x b o (fun y => n (h b y)) z) t
theorem hideT_ext {T : List (Addr × Str)} {M : List Addr} {H H' : Hp} (x : QB.Ext T H H') : Same (hideT M H) (hideT M H') := fun b o z => by
  obtain ⟨n, z, t⟩ := hideT_get z
  exact hideT_at n (x.get z t) t
theorem hideT_same {M : List Addr} {H H' : Hp} (x : Same H H') : Same (hideT M H) (hideT M H') := hideT_exc (N := []) (fun _ h => nomatch h) (.of x)
theorem hideT_sub {M : List Addr} {H : Hp} : Same (hideT M H) H := fun b o z => (hideT_get z).2.1
theorem hideT_hide {M : List Addr} {H : Hp} : Same (hideT M H) (hide M H) := fun b o z => hide_at (hideT_get z).1 (hideT_get z).2.1
theorem hideT_grow {M : List Addr} {H H' : Hp} {d : Addr} (n : H d = none) (s : Same H H') : Same (hideT M H) (hideT (d :: M) H') := fun b u z => by
  obtain ⟨h1, h2, h3⟩ := hideT_get z
  have e : b ≠ d := ne_of_none h2 n
  exact hideT_at (fun y => (List.mem_cons.mp y).elim e h1) (s _ _ h2) h3
theorem hideT_less {M : List Addr} {H : Hp} {d : Addr} : Same (hideT (d :: M) H) (hideT M H) := fun b u z => by
  obtain ⟨h1, h2, h3⟩ := hideT_get z
  exact hideT_at (fun y => h1 (List.mem_cons_of_mem _ y)) h2 h3
theorem nf_hide {M : List Addr} {H0 H : Hp} {f : Addr} {L : List Tri} {F : Form} (ls : ∀ b ∈ M, ∃ xs, H0 b = some (.lst xs)) (n : NewF H0 H f L F) : FormAt (hideT M H) f F := by
  have out : ∀ {a : Addr}, Fresh H0 a → a ∉ M := fun {a} fr z => by
    obtain ⟨xs, h⟩ := ls a z
    exact absurd rfl (fr.ne h)
  refine ⟨L.map (·.1), ?_, ?_⟩
  · have h := hideT_at (out n.new) n.lst
    rw [h, List.map_map]
    rfl
  · have key : ∀ {L' : List Tri} {F' : Form}, Paired (fun (x : Tri) (s : Std) => H x.1 = some (.tup [.ref x.2.1, .ref x.2.2]) ∧ WordAt H x.2.1 s.1 ∧ WaysAt H x.2.2 s.2) L' F' → (∀ x ∈ L', x ∈ L) → Paired (StdAt (hideT M H)) (L'.map (·.1)) F' := by
      intro L' F' h
      induction h with
      | nil => exact fun _ => .nil
      | cons h _ ih =>
        intro hm
        obtain ⟨f1, f2, f3⟩ := n.all.new _ (hm _ List.mem_cons_self)
        exact .cons ⟨_, _, hideT_at (out f1) h.1, hideT_at (out f2) h.2.1, hideT_at (out f3) h.2.2⟩ (ih fun x hx => hm x (List.mem_cons_of_mem _ hx))
    exact key n.all.at_ fun _ h => h
theorem ea_hide {C : Addr} {M : List Addr} {H0 H : Hp} {e dx a b : Addr} {L : List Tri} {tags : Word} {G : Form} (ls : ∀ b ∈ M, ∃ xs, H0 b = some (.lst xs)) (n : EatN C H0 H e dx a b L tags G) : EatAt C (hideT M H) e tags G := by
  have out : ∀ {a : Addr}, Fresh H0 a → a ∉ M := fun {a} fr z => by
    obtain ⟨xs, h⟩ := ls a z
    exact absurd rfl (fr.ne h)
  exact ⟨dx, a, b, hideT_at (out n.fe) n.ins, hideT_at (out n.fa) n.tags, nf_hide ls n.form⟩
/-- the lists that change, all of them new since the law began -/
structure Pl (T : List (Addr × Str)) (H H' : Hp) (M : List Addr) (p : Addr) : Prop where
  ext : QB.Ext T H H'
  fr : ∀ n ∈ M, Fresh H n
  ls : ∀ n ∈ M, ∃ xs, H' n = some (.lst xs)
  pl : PileAt H' p
  pM : p ∈ M
theorem extN {T : List (Addr × Str)} {H H1 H2 : Hp} {N : List Addr} (a : QB.Ext T H H1) (e : Exc N H1 H2) (f : ∀ n ∈ N, Fresh H n) (l : ∀ n ∈ N, ∃ xs, H1 n = some (.lst xs)) : QB.Ext T H H2 := by
  refine ⟨fun b o h n => e b o (fun z => (f b z).ne h n rfl) (a.get h n), fun t => ?_⟩
  intro q hq
  obtain ⟨ps, h1, h2, h3⟩ := a.2 t q hq
  have k : ∀ {c : Addr} {o : HO}, H1 c = some o → (∀ xs, o ≠ .lst xs) → H2 c = some o := fun {c o} h n => e c o (fun z => by
    obtain ⟨xs, y⟩ := l c z
    rw [y] at h
    exact n _ (Option.some.inj h).symm) h
  refine ⟨ps, k h1 (fun _ z => nomatch z), h2, fun pos cv hc => ?_⟩
  obtain ⟨c, e1, e2⟩ := h3 pos cv hc
  exact ⟨c, e1, k e2 (fun xs z => (show Plain (.lst xs) from trivial).code c _ z.symm)⟩
section
variable {T : List (Addr × Str)} {H H1 H2 : Hp} {M : List Addr} {p : Addr}
theorem Pl.same (c : Pl T H H1 M p) (s : Same H1 H2) : Pl T H H2 M p := ⟨c.ext.trans (.of s), c.fr, fun n h => (c.ls n h).imp fun _ z => s _ _ z, c.pl.same s, c.pM⟩
theorem Pl.exT (c : Pl T H H1 M p) (s : QB.Ext T H1 H2) : Pl T H H2 M p := by
  refine ⟨c.ext.trans s, c.fr, fun n h => (c.ls n h).imp fun _ z => s.lst z, ?_, c.pM⟩
  obtain ⟨_, _, _, h⟩ := c.pl
  exact ⟨_, _, _, s.lst h⟩
theorem Pl.exc {N : List Addr} (c : Pl T H H1 M p) (hN : ∀ n ∈ N, n ∈ M) (x : Exc N H1 H2) (l : ∀ n ∈ N, ∃ xs, H2 n = some (.lst xs)) (pl : PileAt H2 p) : Pl T H H2 M p := by
  refine ⟨extN c.ext x (fun n h => c.fr n (hN n h)) fun n h => c.ls n (hN n h), c.fr, fun n h => ?_, pl, c.pM⟩
  by_cases z : n ∈ N
  · exact l n z
  · exact (c.ls n h).imp fun _ y => x _ _ z y
theorem Pl.draw (c : Pl T H H1 M p) (x : Exc [p] H1 H2) (pl : PileAt H2 p) : Pl T H H2 M p := c.exc (fun n h => List.mem_singleton.mp h ▸ c.pM) x (fun n h => by
  obtain ⟨_, _, _, z⟩ := pl
  exact ⟨_, List.mem_singleton.mp h ▸ z⟩) pl
theorem Pl.grow {d : Addr} (c : Pl T H H1 M p) (s : Same H1 H2) (n : H1 d = none) (l : ∃ xs, H2 d = some (.lst xs)) : Pl T H H2 (d :: M) p := by
  have c2 := c.same s
  refine ⟨c2.ext, fun q h => ?_, fun q h => ?_, c2.pl, List.mem_cons_of_mem _ c.pM⟩
  · rcases List.mem_cons.mp h with rfl | h
    · exact c.ext.fresh (.of n)
    · exact c.fr q h
  · rcases List.mem_cons.mp h with rfl | h
    · exact l
    · exact c2.ls q h
theorem Pl.less {d : Addr} (c : Pl T H H1 (d :: M) p) (h : p ≠ d) : Pl T H H1 M p := ⟨c.ext, fun q z => c.fr q (List.mem_cons_of_mem _ z), fun q z => c.ls q (List.mem_cons_of_mem _ z), c.pl, (List.mem_cons.mp c.pM).resolve_left h⟩
theorem Pl.out {d : Addr} (c : Pl T H H1 M p) (n : H1 d = none) : d ∉ M := fun z => by
  obtain ⟨xs, h⟩ := c.ls d z
  rw [n] at h
  cases h
theorem Pl.none (c : Pl T H H1 M p) : ∀ b ∈ M, H1 b ≠ none := fun b h z => c.out z h
theorem Pl.put {d : Addr} {xs : List V} (c : Pl T H H1 M p) (h : d ∈ M) (n : p ≠ d) : Pl T H (upd H1 d (.lst xs)) M p := by
  refine c.exc (N := [d]) (fun q z => List.mem_singleton.mp z ▸ h) exc_mut (fun q z => ?_) (c.pl.exc exc_mut (by simpa using n))
  rw [List.mem_singleton.mp z, upd_same]
  exact ⟨_, rfl⟩
end
theorem hideT_put {M : List Addr} {H : Hp} {d : Addr} {o : HO} (h : d ∈ M) : Same (hideT M H) (hideT M (upd H d o)) := hideT_exc (N := [d]) (fun q z => List.mem_singleton.mp z ▸ h) exc_mut

structure Cell (CE CM : Addr) (T : List (Addr × Str)) (H H' : Hp) (p a D re e3 m ll : Addr) (es : List Addr) (tags : Word) (Gs : List Form) (Gk Gr : Form) (ws : List Word) : Prop where
  pl : Pl T H H' [ll, p] p
  tg : WordAt (hideT [ll, p] H') a tags
  pr : hideT [ll, p] H' D = some (.lst (es.map V.ref))
  ev : Paired (fun e G => EatAt CE (hideT [ll, p] H') e tags G) es Gs
  key : EatAt CE (hideT [ll, p] H') re tags Gk
  str : EatAt CE (hideT [ll, p] H') e3 tags.reverse Gr
  bx : BoxAt CE CM [ll, p] H' m ll tags Gs Gk ws
  ne : p ≠ ll
section
variable {CE CM : Addr} {T : List (Addr × Str)} {H H1 H2 : Hp} {p a D re e3 m ll : Addr} {es : List Addr} {tags : Word} {Gs : List Form} {Gk Gr : Form} {ws ws' : List Word}
theorem Cell.move (c : Cell CE CM T H H1 p a D re e3 m ll es tags Gs Gk Gr ws) (y : Same (hideT [ll, p] H1) (hideT [ll, p] H2)) (P : Pl T H H2 [ll, p] p) (b : BoxAt CE CM [ll, p] H2 m ll tags Gs Gk ws') : Cell CE CM T H H2 p a D re e3 m ll es tags Gs Gk Gr ws' :=
  ⟨P, Same.word y c.tg, y _ _ c.pr, L2.Paired.mapP c.ev fun _ _ z => z.same y, c.key.same y, c.str.same y, b, c.ne⟩
theorem Cell.same (c : Cell CE CM T H H1 p a D re e3 m ll es tags Gs Gk Gr ws) (s : Same H1 H2) : Cell CE CM T H H2 p a D re e3 m ll es tags Gs Gk Gr ws := c.move (hideT_same s) (c.pl.same s) (c.bx.same s)
theorem Cell.draw (c : Cell CE CM T H H1 p a D re e3 m ll es tags Gs Gk Gr ws) (x : Exc [p] H1 H2) (P : PileAt H2 p) : Cell CE CM T H H2 p a D re e3 m ll es tags Gs Gk Gr ws := by
  have hN : ∀ n ∈ [p], n ∈ [ll, p] := fun n h => List.mem_cons_of_mem _ h
  exact c.move (hideT_exc hN x) (c.pl.draw x P) (c.bx.exc hN x (by simpa using c.ne.symm))
theorem Cell.come (c : Cell CE CM T H H1 p a D re e3 m ll es tags Gs Gk Gr ws) (x : Exc [ll] H1 H2) (b : BoxAt CE CM [ll, p] H2 m ll tags Gs Gk ws') : Cell CE CM T H H2 p a D re e3 m ll es tags Gs Gk Gr ws' := by
  have hN : ∀ n ∈ [ll], n ∈ [ll, p] := fun n h => List.mem_singleton.mp h ▸ List.mem_cons_self
  have hl : ∃ xs, H2 ll = some (.lst xs) := by
    obtain ⟨_, _, _, _, _, z⟩ := b
    exact ⟨_, z.lst⟩
  exact c.move (hideT_exc hN x) (c.pl.exc hN x (fun n h => List.mem_singleton.mp h ▸ hl) (c.pl.pl.exc x (by simpa using c.ne))) b
theorem Cell.tags_ (c : Cell CE CM T H H1 p a D re e3 m ll es tags Gs Gk Gr ws) : WordAt H1 a tags := Same.word hideT_sub c.tg
theorem Cell.progs (c : Cell CE CM T H H1 p a D re e3 m ll es tags Gs Gk Gr ws) : ProgsAt CE H1 D es tags Gs := ⟨hideT_sub _ _ c.pr, L2.Paired.mapP c.ev fun _ _ z => z.same hideT_sub⟩
theorem Cell.key_ (c : Cell CE CM T H H1 p a D re e3 m ll es tags Gs Gk Gr ws) : EatAt CE H1 re tags Gk := c.key.same hideT_sub
theorem Cell.str_ (c : Cell CE CM T H H1 p a D re e3 m ll es tags Gs Gk Gr ws) : EatAt CE H1 e3 tags.reverse Gr := c.str.same hideT_sub
end
end Law
end

section
set_option Elab.async false
set_option linter.all false
set_option maxRecDepth 100000
set_option maxHeartbeats 4000000
namespace Law
open PySem PySem.Spec PyProof.Rows L2 LamX QB QM QV
/-! data that are shallow, and what is told of them -/
def flatP : PyData → Bool
  | .none => true
  | .bool _ => true
  | .int _ => true
  | .str _ => true
  | _ => false
def plainP : PyData → Bool
  | .list ds => ds.all flatP
  | .tuple ds => ds.all flatP
  | .dict _ => false
  | _ => true
theorem flat_dp {K : PySem.W.Frag} {H : Hp} {v : V} {d : PyData} (h : Dv H v d) (f : flatP d = true) : Dp K H v d := by
  cases h with
  | non => exact .non
  | bl b => exact .bl b
  | int i => exact .int i
  | str x => exact .str x
  | _ => cases f
theorem flat_dpAll {K : PySem.W.Frag} {H : Hp} : ∀ {ds : List PyData} {vs : List V}, DvAll H vs ds → ds.all flatP = true → DpAll K H vs ds
  | [], _, h, _ => by
    cases h
    exact .nil
  | d :: ds, _, h, f => by
    cases h with
    | cons h g =>
      rw [List.all_cons, Bool.and_eq_true] at f
      exact .cons (flat_dp h f.1) (flat_dpAll g f.2)
theorem plain_dp {K : PySem.W.Frag} {H : Hp} {v : V} {d : PyData} (h : Dv H v d) (f : plainP d = true) : Dp K H v d := by
  cases h with
  | non => exact .non
  | bl b => exact .bl b
  | int i => exact .int i
  | str x => exact .str x
  | lst h g => exact .lst (SqL.of h) (flat_dpAll g f)
  | tup h g => exact .tup (SqT.of h) (flat_dpAll g f)
  | dct h => cases f
/-- what the law draws in place of a number -/
structure Odd (d : PyData) : Prop where
  sm : Sm 300 2 d
  pl : plainP d = true
  sh : SeqAt.shaped (.list [.str "number", d]) = true
def dOut : Out → PyData → PyData
  | .let_, _ => .list [.str "let"]
  | .number _, d => .list [.str "number", d]
  | .subject _, d => .list [.str "subject", d]
  | .programs _, d => .list [.str "programs", d]
  | .many, _ => .list [.str "many", .int 200]
  | .unlike, _ => .list [.str "unlike"]
/-- what is told with a place, or with none -/
def placeD (iv : V) (d : PyData) : Prop := (iv = .non ∧ d = .none) ∨ ∃ i : Int, iv = .int i ∧ d = .int i
def okOut : Out → PyData → Prop
  | .number _, _ => False
  | .subject iv, d => placeD iv d
  | .programs iv, d => placeD iv d
  | _, _ => True
theorem shaped_place {t : Str} {iv : V} {d : PyData} (ht : PyData.strOk t = true) (h : placeD iv d) : SeqAt.shaped (.list [.str t, d]) = true ∧ PyData.eqv (.list [.str t, d]) (.list [.str t, d]) = true := by
  have e1 : PyData.eqv (.str t) (.str t) = true := (enc_str.eq t t).trans (decide_eq_true rfl)
  have l1 : PyData.canLay0 (.str t) = true := enc_str.lay t ht
  rcases h with ⟨rfl, rfl⟩ | ⟨i, rfl, rfl⟩
  · refine ⟨?_, ?_⟩
    · unfold SeqAt.shaped
      rw [Bool.and_eq_true, PyData.canLay0, PyData.canLayAll0, PyData.canLayAll0, PyData.canLayAll0, l1]
      exact ⟨by decide +kernel, decide_eq_true (by simp [PyData.depth, PyData.depthAll])⟩
    · rw [PyData.eqv, PyData.eqvAll, PyData.eqvAll, PyData.eqvAll, e1]
      decide +kernel
  · have e2 : PyData.eqv (.int i) (.int i) = true := (enc_int.eq i i).trans (decide_eq_true rfl)
    have l2 : PyData.canLay0 (.int i) = true := enc_int.lay i trivial
    refine ⟨?_, ?_⟩
    · unfold SeqAt.shaped
      rw [Bool.and_eq_true, PyData.canLay0, PyData.canLayAll0, PyData.canLayAll0, PyData.canLayAll0, l1, l2]
      exact ⟨rfl, decide_eq_true (by simp [PyData.depth, PyData.depthAll])⟩
    · rw [PyData.eqv, PyData.eqvAll, PyData.eqvAll, PyData.eqvAll, e1, e2]
      rfl
theorem out_same {o : Out} {d : PyData} (h : okOut o d) : SeqAt.shaped (dOut o d) = true ∧ PyData.eqv (dOut o d) (dOut o d) = true := by
  cases o with
  | let_ => exact (show SeqAt.shaped (.list [.str "let"]) = true ∧ PyData.eqv (.list [.str "let"]) (.list [.str "let"]) = true from ⟨by decide +kernel, by decide +kernel⟩)
  | many => exact (show SeqAt.shaped (.list [.str "many", .int 200]) = true ∧ PyData.eqv (.list [.str "many", .int 200]) (.list [.str "many", .int 200]) = true from ⟨by decide +kernel, by decide +kernel⟩)
  | unlike => exact (show SeqAt.shaped (.list [.str "unlike"]) = true ∧ PyData.eqv (.list [.str "unlike"]) (.list [.str "unlike"]) = true from ⟨by decide +kernel, by decide +kernel⟩)
  | number v => exact h.elim
  | subject v => exact shaped_place (by decide +kernel) h
  | programs v => exact shaped_place (by decide +kernel) h
theorem place_dp {K : PySem.W.Frag} {H : Hp} {iv : V} {d : PyData} (h : placeD iv d) : Dp K H iv d := by
  rcases h with ⟨rfl, rfl⟩ | ⟨i, rfl, rfl⟩
  · exact .non
  · exact .int i
theorem out_dp {K : PySem.W.Frag} {H : Hp} {p : Addr} {o : Out} {d : PyData} (h : okOut o d) (hp : H p = some (.lst (outL o))) : Dp K H (.ref p) (dOut o d) := by
  cases o with
  | let_ => exact .lst (SqL.of hp) (.cons (.str _) .nil)
  | many => exact .lst (SqL.of hp) (.cons (.str _) (.cons (.int _) .nil))
  | unlike => exact .lst (SqL.of hp) (.cons (.str _) .nil)
  | number v => exact h.elim
  | subject v => exact .lst (SqL.of hp) (.cons (.str _) (.cons (place_dp h) .nil))
  | programs v => exact .lst (SqL.of hp) (.cons (.str _) (.cons (place_dp h) .nil))
/-- two tellings of one outcome are equal -/
theorem ne_out {K : PySem.W.Frag} {H : Hp} {p q : Addr} {o : Out} {d : PyData} {Q : VK} (h : okOut o d) (hp : H p = some (.lst (outL o))) (hq : H q = some (.lst (outL o))) (k : Q (.bl false) H) : rNeD K (.ref p) (.ref q) H Q := by
  refine ⟨_, _, out_dp h hp, out_dp h hq, (out_same h).1, (out_same h).1, ?_⟩
  rw [(out_same h).2]
  exact k
theorem idx_place {o : Option Nat} {iv : V} (h : idx o = some iv) : ∃ d, placeD iv d := by
  cases o with
  | none => cases h
  | some i =>
    cases h
    exact ⟨_, .inr ⟨i, rfl, rfl⟩⟩
theorem word_place {tags : List Str} {n : Nat} {e : PyData} {iv : V} (h : wordDue tags n e = some iv) : ∃ d, placeD iv d := by
  cases e with
  | list ds =>
    have h : (if ds.length ≤ n then idx (firstBad (badWord tags ds) ds.length) else some .non) = some iv := h
    by_cases hl : ds.length ≤ n
    · rw [if_pos hl] at h
      exact idx_place h
    · rw [if_neg hl] at h
      cases h
      exact ⟨_, .inl ⟨rfl, rfl⟩⟩
  | _ =>
    cases h
    exact ⟨_, .inl ⟨rfl, rfl⟩⟩
theorem sub_ok {tags : List Str} {e : PyData} : ∃ d, okOut (subOut tags e) d := by
  unfold subOut
  cases h : wordDue tags 200 e with
  | none => exact ⟨.none, trivial⟩
  | some iv => exact word_place h
theorem prog_ok {xs : List Prog} {r : Prog} : ∃ d, okOut (progOut xs r) d := by
  unfold progOut
  cases h : progDue xs with
  | none =>
    refine ⟨.none, ?_⟩
    show okOut (if _ then _ else _) _
    by_cases e : r.tags = xs.head?.bind Prog.tags
    · rw [if_pos e]
      trivial
    · rw [if_neg e]
      trivial
  | some iv =>
    unfold progDue at h
    by_cases hl : 1 ≤ xs.length ∧ xs.length ≤ 6
    · rw [if_pos hl] at h
      exact idx_place h
    · rw [if_neg hl] at h
      cases h
      exact ⟨.none, .inl ⟨rfl, rfl⟩⟩
theorem odd_place {iv : V} {d : PyData} (h : placeD iv d) (s : Sm 300 2 d) (p : plainP d = true) : Odd d := ⟨s, p, (shaped_place (by decide +kernel) h).1⟩
theorem odd_nat {i : Nat} (h : i ≤ 300) : Odd (.int (i : Int)) := odd_place (.inr ⟨_, rfl, rfl⟩) ((sm_int (k := 2) h).mono (by omega) (Nat.le_refl _)) rfl
theorem odd_less : Odd (.int (0 - 1)) := odd_place (.inr ⟨_, rfl, rfl⟩) (sm_less.mono (by omega) (by omega)) rfl
theorem odd_great : Odd (.int (10 ^ (20 : Int).toNat)) := odd_place (.inr ⟨_, rfl, rfl⟩) (sm_great.mono (by omega) (by omega)) rfl
theorem odd_non : Odd .none := odd_place (.inl ⟨rfl, rfl⟩) ((sm_non (k := 2)).mono (by omega) (by omega)) rfl
theorem odd_bl (b : Bool) : Odd (.bool b) := ⟨(sm_bl (k := 2) b).mono (by omega) (by omega), rfl, by cases b <;> decide +kernel⟩
theorem odd_str : Odd (.str "0") := ⟨(sm_str (k := 2) (n := 8) (by decide +kernel) (by decide +kernel)).mono (by omega) (by omega), rfl, by decide +kernel⟩
theorem odd_list : Odd (.list [.int ((0 : Nat) : Int)]) := ⟨(SmL.cons (sm_int (k := 1) (i := 0) (by omega)) SmL.nil).list.mono (by omega) (by omega), rfl, by decide +kernel⟩
theorem odd_tup : Odd (.tuple [.int ((0 : Nat) : Int)]) := ⟨(SmL.cons (sm_int (k := 1) (i := 0) (by omega)) SmL.nil).tuple.mono (by omega) (by omega), rfl, by decide +kernel⟩
theorem odd_cons {H : Hp} {v : V} {xs : List V} {d : PyData} (h : Dv H v d) (s : Odd d) (g : ∀ v ∈ xs, ∃ d, Dv H v d ∧ Odd d) : ∀ u ∈ v :: xs, ∃ d, Dv H u d ∧ Odd d := fun u hu => by
  rcases List.mem_cons.mp hu with rfl | hu
  · exact ⟨d, h, s⟩
  · exact g u hu
theorem odd_pick {H : Hp} {xs : List V} {r : Nat} (hr : r < xs.length) (h : ∀ v ∈ xs, ∃ d, Dv H v d ∧ Odd d) : ∃ v, xs[r]? = some v ∧ ∃ d, Dv H v d ∧ Odd d :=
  ⟨xs[r], List.getElem?_eq_getElem hr, h _ (List.getElem_mem hr)⟩
theorem odds {H : Hp} {q1 q2 : Addr} {n k : Nat} (hn : n ≤ 300) (hk : k ≤ 300) (h1 : H q1 = some (.lst [.int 0])) (h2 : H q2 = some (.tup [.int 0])) :
    ∀ v ∈ [V.int (n : Int), .int (0 - 1), .bl true, .non, .str "0", .ref q1, .int (10 ^ (20 : Int).toNat), .bl false, .int 0, .int (k : Int), .ref q2], ∃ d, Dv H v d ∧ Odd d :=
  odd_cons (.int _) (odd_nat hn) (odd_cons (.int _) odd_less (odd_cons (.bl _) (odd_bl _) (odd_cons .non odd_non (odd_cons (.str _) odd_str (odd_cons (.lst h1 (.cons (.int _) .nil)) odd_list
    (odd_cons (.int _) odd_great (odd_cons (.bl _) (odd_bl _) (odd_cons (.int _) (odd_nat (i := 0) (by omega)) (odd_cons (.int _) (odd_nat hk) (odd_cons (.tup h2 (.cons (.int _) .nil)) odd_tup fun _ h => nomatch h))))))))))
/-- what is told of a number that is none, as text -/
theorem odd_shows {H : Hp} {p : Addr} {v : V} {d : PyData} (o : Odd d) (hv : Dv H v d) (hp : H p = some (.lst (outL (.number v)))) : Dv H (.ref p) (.list [.str "number", d]) ∧ Shows (.list [.str "number", d]) :=
  ⟨.lst hp (.cons (.str _) (.cons hv .nil)), ((SmL.cons (sm_str (k := 2) (n := 8) (by decide +kernel) (by decide +kernel)) (SmL.cons o.sm SmL.nil)).list.mono (by omega) (by omega)).shows⟩
theorem str_odd {H : Hp} {p : Addr} {v : V} {d : PyData} {Q : VK} (o : Odd d) (hv : Dv H v d) (hp : H p = some (.lst (outL (.number v)))) (q : Q (.str (PyData.list [.str "number", d]).shown) H) : rReprV [.ref p] H Q := by
  obtain ⟨a, b⟩ := odd_shows o hv hp
  exact ⟨_, _, p, rfl, rfl, a, b, q⟩
/-- what is due is no let -/
theorem ne_let {K : PySem.W.Frag} {H : Hp} {p q : Addr} {v : V} {d : PyData} {Q : VK} (o : Odd d) (hv : Dv H v d) (hp : H p = some (.lst (outL (.number v)))) (hq : H q = some (.lst [.str "let"])) (k : Q (.bl true) H) : rNeD K (.ref p) (.ref q) H Q := by
  refine ⟨.list [.str "number", d], .list [.str "let"], .lst (SqL.of hp) (.cons (.str _) (.cons (plain_dp hv o.pl) .nil)), .lst (SqL.of hq) (.cons (.str _) .nil), o.sh, by decide +kernel, ?_⟩
  have e : PyData.eqv (.list [.str "number", d]) (.list [.str "let"]) = false := by
    rw [PyData.eqv, PyData.eqvAll, PyData.eqvAll]
    decide +kernel
  rw [e]
  exact k
theorem eq_let {K : PySem.W.Frag} {H : Hp} {p q : Addr} {Q : VK} (hp : H p = some (.lst (outL .let_))) (hq : H q = some (.lst [.str "let"])) (k : Q (.bl false) H) : rNeD K (.ref p) (.ref q) H Q :=
  ne_out (o := .let_) (d := .none) trivial hp hq k
/-- what is told of a number is one of the two -/
theorem numOut_cases (way n k : Nat) (v y : V) (d dy : PyData) : numOut way n k v y d dy = .let_ ∨ numOut way n k v y d dy = .number v ∨ numOut way n k v y d dy = .number y := by
  unfold numOut
  by_cases h1 : numD 0 ((n : Int) - 1) d = false
  · rw [if_pos h1]
    exact .inr (.inl rfl)
  · rw [if_neg h1]
    by_cases h2 : (way = 1 ∨ way = 2) ∧ numD 0 ((k : Int) - 1) dy = false
    · rw [if_pos h2]
      exact .inr (.inr rfl)
    · rw [if_neg h2]
      exact .inl rfl
section
variable {P : Program} {w : World} {K : PySem.W.Frag} {mg : Str → Option Value} {base : Heap}
variable {X : TX K mg} {M : List Addr} {H : Hp} {m ll : Addr} {tags : Word} {Gs : List Form} {Gk : Form} {ws : List Word} {Q : VK} {E : XK} {v y : V} {d dy : PyData}
theorem numOut_ok {way n k : Nat} (h : numD 0 ((n : Int) - 1) d = true) (h2 : way = 1 ∨ way = 2 → numD 0 ((k : Int) - 1) dy = true) : numOut way n k v y d dy = .let_ := by
  unfold numOut
  rw [h, if_neg (by decide), if_neg]
  rintro ⟨a, b⟩
  rw [h2 a] at b
  cases b
theorem int_num {i n : Nat} (hv : Dv H (.int (i : Int)) d) (h : i < n) : numD 0 ((n : Int) - 1) d = true := by
  cases hv
  exact decide_eq_true (by omega)
theorem told_num {way : Nat} (hw : 1 ≤ way ∧ way ≤ 5) (bx : BoxAt X.c_Eater X.c_Mailbox M H m ll tags Gs Gk ws) (ok : BoxOk tags Gs Gk) (wo : WsOk tags 200 ws) (T0 : ∀ b ∈ M, H b ≠ none) (hl : ws.length ≤ 1000) (hv : Dv H v d) (hy : Dv H y dy)
    (ne : numOut way ws.length Gs.length v y d dy ≠ .let_) (q : ∀ p H', Same H H' → H' p = some (.lst (outL (numOut way ws.length Gs.length v y d dy))) → Q (.ref p) H') : spToldO X [.int (way : Int), .ref m, v, y] H Q E := by
  obtain ⟨dx, pl, ke, ts, ho, _, _⟩ := boxObj bx
  refine ⟨way, m, dx, pl, ke, ll, v, y, numOut way ws.length Gs.length v y d dy, fun _ => True, rfl, ho, fun R E' bad _ => ?_, fun _ p H' s _ hp => q p H' s hp, fun z => absurd z ne⟩
  have b1 : numD 0 ((ws.length : Int) - 1) d = false → Bad X.e_InvalidNumber "number" v H E' := fun z => by
    have := bad H (Same.refl H)
    unfold numOut at this
    rw [if_pos z] at this
    exact this
  have b2 : (way = 1 ∨ way = 2) → numD 0 ((ws.length : Int) - 1) d = true → numD 0 ((Gs.length : Int) - 1) dy = false → Bad X.e_InvalidNumber "number" y H E' := fun a z z2 => by
    have := bad H (Same.refl H)
    unfold numOut at this
    rw [if_neg (by rw [z]; decide), if_pos ⟨a, z2⟩] at this
    exact this
  have wo2 : WsOk tags 1000 ws := fun wd h => ⟨(wo wd h).1, by have := (wo wd h).2; omega⟩
  have ge : ∀ {Rg : Hp → List Word → Nat → Word → List Form → Form → VK → Prop} {R0 : VK}, ¬(way = 1 ∨ way = 2) → spGetX X.c_Eater X.c_Mailbox X.e_InvalidNumber Rg [.ref m, v] H R0 E' := fun {Rg R0} nw =>
    ⟨M, m, ll, tags, Gs, Gk, ws, v, d, rfl, bx, ok, wo2, hl, hv, b1, fun i _ _ z => absurd (numOut_ok z fun a => absurd a nw) ne⟩
  have an : ∀ {Rg : List Addr → Hp → Addr → Addr → Word → List Form → Form → List Word → Nat → Nat → VK → Prop} {R0 : VK}, (way = 1 ∨ way = 2) → spAnswX X.c_Eater X.c_Mailbox X.e_InvalidNumber X.e_TooMany Rg [.ref m, v, y] H R0 E' := fun {Rg R0} a =>
    ⟨M, m, ll, tags, Gs, Gk, ws, v, y, d, dy, rfl, bx, ok, wo, T0, hl, hv, hy, b1, b2 a, fun i j ei ej h1 h2 => absurd (numOut_ok (int_num (ei ▸ hv) h1) fun _ => int_num (ej ▸ hy) h2) ne⟩
  rcases (by omega : way = 1 ∨ way = 2 ∨ way = 3 ∨ way = 4 ∨ way = 5) with e | e | e | e | e
  · exact .inr (.inl ⟨e, an (.inl e)⟩)
  · exact .inr (.inr (.inl ⟨e, an (.inr e)⟩))
  · exact .inr (.inr (.inr (.inl ⟨e, ge (by omega)⟩)))
  · exact .inr (.inr (.inr (.inr (.inl ⟨e, ge (by omega)⟩))))
  · exact .inr (.inr (.inr (.inr (.inr (.inl ⟨e, ge (by omega)⟩)))))
theorem told_sub {iv : V} (bx : BoxAt X.c_Eater X.c_Mailbox M H m ll tags Gs Gk ws) (ok : BoxOk tags Gs Gk) (T0 : ∀ b ∈ M, H b ≠ none) (hl : ws.length ≤ 1000) (hv : Dv H v d) (hw : d.weight ≤ 10000) (e : wordDue tags 200 d = some iv)
    (q : ∀ p H', Same H H' → H' p = some (.lst (outL (subOut tags d))) → Q (.ref p) H') : spToldO X [.int 0, .ref m, v, y] H Q E := by
  obtain ⟨dx, pl, ke, ts, ho, _, _⟩ := boxObj bx
  have eo : subOut tags d = .subject iv := by
    unfold subOut
    rw [e]
  rw [eo] at q
  refine ⟨0, m, dx, pl, ke, ll, v, y, .subject iv, fun _ => True, rfl, ho, fun R E' bad _ => .inl ⟨rfl, M, m, ll, tags, Gs, Gk, ws, v, d, rfl, bx, ok, T0, hl, hv, hw, fun iv' z H1 s => ?_, fun z => ?_⟩, fun _ p H' s _ hp => q p H' s hp, fun z => nomatch z⟩
  · rw [e] at z
    cases z
    exact bad H1 s
  · rw [e] at z
    cases z
theorem told_prog {r : Prog} {o : Out} (bx : BoxAt X.c_Eater X.c_Mailbox M H m ll tags Gs Gk ws) (hy : ProgV X.c_Eater H y r)
    (hv : (∃ p us xs, v = .ref p ∧ H p = some (.lst us) ∧ Paired (ProgV X.c_Eater H) us xs ∧ xs.length ≤ 1000 ∧ o = progOut xs r) ∨ (NoList H v ∧ o = .programs .non))
    (q : ∀ p H', Same H H' → H' p = some (.lst (outL o)) → Q (.ref p) H') : spToldO X [.int 6, .ref m, v, y] H Q E := by
  obtain ⟨dx, pl, ke, ts, ho, _, _⟩ := boxObj bx
  refine ⟨6, m, dx, pl, ke, ll, v, y, o, fun H1 => Same H H1, rfl, ho, fun R E' bad let_ => .inr (.inr (.inr (.inr (.inr (.inr ⟨rfl, fun x dx2 h1 h2 h3 => ?_⟩))))), fun _ p H' s _ hp => q p H' s hp, fun _ p H1 H' s1 s _ hp => q p H' (s1.trans s) hp⟩
  have sM : Same H (upd (upd H dx2 (.own x)) x (.ins X.c_Mailbox dx2 [])) := Same.new (same_new h2) ((upd_ne h3.symm).trans h1)
  refine ⟨x, dx2, v, y, r, rfl, upd_same, hy.same sM, ?_⟩
  rcases hv with ⟨p, us, xs, rfl, hp, hP, hlen, rfl⟩ | ⟨nl, rfl⟩
  · refine .inl ⟨p, us, xs, rfl, sM _ _ hp, paired_same hP sM, hlen, fun iv z H1 s => ?_, fun z => ⟨fun z2 H1 s => ?_, fun z2 H' xx => ⟨rfl, ?_⟩⟩⟩
    · have := bad H1 (sM.trans s)
      unfold progOut at this
      rw [z] at this
      exact this
    · have := bad H1 (sM.trans s)
      unfold progOut at this
      rw [z] at this
      simp only [if_neg z2] at this
      exact this
    · refine let_ ?_ _ H' (same_exc sM xx h1)
      unfold progOut
      rw [z]
      exact if_pos z2
  · refine .inr ⟨?_, (bad H (Same.refl H)).same sM⟩
    rcases nl with rfl | ⟨p, ys, rfl, hp⟩
    · exact .inl rfl
    · exact .inr ⟨p, ys, rfl, sM _ _ hp⟩
end
end Law
end

section
set_option Elab.async false
set_option linter.all false
set_option maxRecDepth 100000
set_option maxHeartbeats 4000000
namespace Law
open PySem PySem.Spec PyProof.Rows L2 LamX QB QM QV
/-! what the law puts in place of a subject and of programs -/
structure Wrong (tags : Word) (d : PyData) : Prop where
  w : d.weight ≤ 10000
  due : ∃ iv, wordDue tags 200 d = some iv
theorem due_bad {tags : Word} {ds : List PyData} {i : Nat} {e : PyData} (h : ds[i]? = some e) (b : tagD tags e = false) : ∃ iv, wordDue tags 200 (.list ds) = some iv := by
  cases q : wordDue tags 200 (.list ds) with
  | some iv => exact ⟨iv, rfl⟩
  | none =>
    have q : (if ds.length ≤ 200 then idx (firstBad (badWord tags ds) ds.length) else some .non) = none := q
    by_cases hl : ds.length ≤ 200
    · rw [if_pos hl] at q
      have hi : i < ds.length := by
        rcases Nat.lt_or_ge i ds.length with z | z
        · exact z
        · rw [List.getElem?_eq_none z] at h
          cases h
      have := firstBad_none q i hi
      unfold badWord at this
      rw [h] at this
      have this : (!tagD tags e) = false := this
      rw [b] at this
      cases this
    · rw [if_neg hl] at q
      cases q
theorem wrong_cons {tags : Word} {H : Hp} {v : V} {xs : List V} {d : PyData} (h : Dv H v d) (s : Wrong tags d) (g : ∀ v ∈ xs, ∃ d, Dv H v d ∧ Wrong tags d) : ∀ u ∈ v :: xs, ∃ d, Dv H u d ∧ Wrong tags d := fun u hu => by
  rcases List.mem_cons.mp hu with rfl | hu
  · exact ⟨d, h, s⟩
  · exact g u hu
theorem wrong_words {tags : Word} {H : Hp} {t0 : Str} {w1 w2 w5 w6 w7 w8 w9 : Addr} (to : TagsOk tags) (nq : NoQ tags) (m0 : t0 ∈ tags) (h1 : H w1 = some (.lst [.str t0, .non])) (h2 : H w2 = some (.lst [.int 0])) (h5 : H w5 = some (.tup (vS tags)))
    (h6 : H w6 = some (.lst (vS (List.replicate 201 t0)))) (h7 : H w7 = some (.lst [.str (t0 ++ Str.ofString "q")])) (h9 : H w9 = some (.lst [.str t0])) (h8 : H w8 = some (.lst [.ref w9])) :
    ∀ v ∈ [V.ref w1, .ref w2, .str t0, .non, .ref w5, .ref w6, .ref w7, .ref w8], ∃ d, Dv H v d ∧ Wrong tags d := by
  have n0 := to.names t0 m0
  have s0 : Sm 8 1 (.str t0) := name_sm n0
  have s00 : Sm 8 0 (.str t0) := name_sm n0
  have l0 := n0.len
  refine wrong_cons (.lst h1 (.cons (.str _) (.cons .non .nil))) ⟨Nat.le_trans (SmL.cons s0 (SmL.cons (sm_non (k := 1)) SmL.nil)).list.w (by omega), due_bad (i := 1) rfl rfl⟩ ?_
  refine wrong_cons (.lst h2 (.cons (.int _) .nil)) ⟨Nat.le_trans (SmL.cons (sm_int (k := 1) (i := 0) (by omega)) SmL.nil).list.w (by omega), due_bad (i := 0) rfl rfl⟩ ?_
  refine wrong_cons (.str _) ⟨Nat.le_trans s0.w (by omega), _, rfl⟩ ?_
  refine wrong_cons .non ⟨Nat.le_trans (sm_non (k := 1)).w (by omega), _, rfl⟩ ?_
  refine wrong_cons (.tup h5 (word_dv tags)) ⟨Nat.le_trans (word_sm (k := 1) to.names).tuple.w (by have := to.len; omega), _, rfl⟩ ?_
  refine wrong_cons (.lst h6 (word_dv _)) ⟨Nat.le_trans (word_sm (k := 1) (wd := List.replicate 201 t0) fun t ht => List.eq_of_mem_replicate ht ▸ n0).list.w (by rw [List.length_replicate]; omega), ?_⟩ ?_
  · refine ⟨.non, ?_⟩
    show (if ((List.replicate 201 t0).map PyData.str).length ≤ 200 then idx (firstBad (badWord tags ((List.replicate 201 t0).map PyData.str)) ((List.replicate 201 t0).map PyData.str).length) else some .non) = some V.non
    rw [if_neg]
    rw [List.length_map, List.length_replicate]
    omega
  refine wrong_cons (.lst h7 (.cons (.str _) .nil)) ⟨?_, due_bad (i := 0) rfl (decide_eq_false fun z => nq t0 m0 _ z rfl)⟩ ?_
  · have lq : (t0 ++ Str.ofString "q").cps.size ≤ 9 := by
      show (t0.cps ++ (Str.ofString "q").cps).size ≤ 9
      have l0 : t0.cps.size ≤ 8 := l0
      have l1 : (Str.ofString "q").cps.size = 1 := by decide +kernel
      rw [Array.size_append]
      omega
    simp only [PyData.weight, PyData.weightAll]
    omega
  exact wrong_cons (.lst h8 (.cons (.lst h9 (.cons (.str _) .nil)) .nil)) ⟨Nat.le_trans (SmL.cons (SmL.cons s00 SmL.nil).list SmL.nil).list.w (by omega), due_bad (i := 0) rfl rfl⟩ fun _ h => nomatch h
theorem wrong_pick {tags : Word} {H : Hp} {xs : List V} {r : Nat} (hr : r < xs.length) (h : ∀ v ∈ xs, ∃ d, Dv H v d ∧ Wrong tags d) : ∃ v, xs[r]? = some v ∧ ∃ d, Dv H v d ∧ Wrong tags d :=
  ⟨xs[r], List.getElem?_eq_getElem hr, h _ (List.getElem_mem hr)⟩
/-- what may stand for programs -/
def LotV (CE : Addr) (H : Hp) (v : V) : Prop := (∃ p us xs, v = .ref p ∧ H p = some (.lst us) ∧ Paired (ProgV CE H) us xs ∧ xs.length ≤ 1000) ∨ NoList H v
theorem LotV.same {CE : Addr} {H H' : Hp} {v : V} (h : LotV CE H v) (s : Same H H') : LotV CE H' v := by
  rcases h with ⟨p, us, xs, a1, a2, a3, a4⟩ | rfl | ⟨p, ys, rfl, hp⟩
  · exact .inl ⟨p, us, xs, a1, s _ _ a2, paired_same a3 s, a4⟩
  · exact .inr (.inl rfl)
  · exact .inr (.inr ⟨p, ys, rfl, s _ _ hp⟩)
def progsOf (tags : Word) (Gs : List Form) : List Prog := Gs.map fun G => Prog.eat tags G
theorem progs_v {CE : Addr} {H : Hp} {tags : Word} (ok : OkWord tags) : ∀ {es : List Addr} {Gs : List Form}, Paired (fun e G => EatAt CE H e tags G) es Gs → Paired (ProgV CE H) (es.map V.ref) (progsOf tags Gs)
  | _, _, .nil => .nil
  | _, _, .cons h g => .cons ⟨_, rfl, h, ok⟩ (progs_v ok g)
theorem paired_app {α β : Type} {R : α → β → Prop} {as as' : List α} {bs bs' : List β} (h : Paired R as bs) (g : Paired R as' bs') : Paired R (as ++ as') (bs ++ bs') := by
  induction h with
  | nil => exact g
  | cons h _ ih => exact .cons h ih
theorem paired_rep {α β : Type} {R : α → β → Prop} {as : List α} {bs : List β} (h : Paired R as bs) : ∀ n : Nat, Paired R (List.replicate n as).flatten (List.replicate n bs).flatten
  | 0 => .nil
  | n + 1 => by
    rw [List.replicate_succ, List.flatten_cons, List.replicate_succ, List.flatten_cons]
    exact paired_app h (paired_rep h n)
theorem lot_cons {CE : Addr} {H : Hp} {v : V} {xs : List V} (h : LotV CE H v) (g : ∀ v ∈ xs, LotV CE H v) : ∀ u ∈ v :: xs, LotV CE H u := fun u hu => by
  rcases List.mem_cons.mp hu with rfl | hu
  · exact h
  · exact g u hu
theorem lots_ok {CE : Addr} {H : Hp} {tags : Word} {es : List Addr} {Gs : List Form} {Gr : Form} {D e3 p2 p3 p4 p6 p7 p8 : Addr} (ok : OkWord tags) (hG : Gs.length ≤ 6) (hD : H D = some (.lst (es.map V.ref))) (hE : Paired (fun e G => EatAt CE H e tags G) es Gs) (he : EatAt CE H e3 tags.reverse Gr)
    (h2 : H p2 = some (.lst (es.map V.ref ++ [V.ref e3]))) (h3 : H p3 = some (.lst ([V.non] ++ es.map V.ref))) (h4 : H p4 = some (.tup (es.map V.ref))) (h6 : H p6 = some (.lst [])) (h7 : H p7 = some (.lst (List.replicate 7 (es.map V.ref)).flatten)) (h8 : H p8 = some (.lst [.ref e3])) :
    ∀ v ∈ [V.ref D, .ref p2, .ref p3, .ref p4, .non, .ref p6, .ref p7] ++ [.ref p8], LotV CE H v := by
  have okr : OkWord tags.reverse := fun t ht => ok t (List.mem_reverse.mp ht)
  have pv := progs_v ok hE
  have pl : (progsOf tags Gs).length = Gs.length := List.length_map _
  have sv : Paired (ProgV CE H) [V.ref e3] [Prog.eat tags.reverse Gr] := .cons ⟨_, rfl, he, okr⟩ .nil
  refine lot_cons (.inl ⟨_, _, _, rfl, hD, pv, by omega⟩) ?_
  refine lot_cons (.inl ⟨_, _, _, rfl, h2, paired_app pv sv, by rw [List.length_append, pl]; show _ + 1 ≤ _; omega⟩) ?_
  refine lot_cons (.inl ⟨_, _, _, rfl, h3, paired_app (.cons (show ProgV CE H .non .non from rfl) .nil) pv, by rw [List.length_append, pl]; show 1 + _ ≤ _; omega⟩) ?_
  refine lot_cons (.inr (.inr ⟨_, _, rfl, h4⟩)) ?_
  refine lot_cons (.inr (.inl rfl)) ?_
  refine lot_cons (.inl ⟨_, _, _, rfl, h6, .nil, by show 0 ≤ _; omega⟩) ?_
  refine lot_cons (.inl ⟨_, _, _, rfl, h7, paired_rep pv 7, ?_⟩) ?_
  · have : ∀ n : Nat, (List.replicate n (progsOf tags Gs)).flatten.length = n * Gs.length := fun n => by
      induction n with
      | zero => simp
      | succ n ih => rw [List.replicate_succ, List.flatten_cons, List.length_append, ih, pl, Nat.succ_mul]; omega
    rw [this]
    omega
  exact lot_cons (.inl ⟨_, _, _, rfl, h8, sv, by show 1 ≤ _; omega⟩) fun _ h => nomatch h
theorem readers_ok {CE : Addr} {H : Hp} {tags : Word} {us : List V} {Gk Gr : Form} {D re e3 : Addr} (ok : OkWord tags) (hD : H D = some (.lst us)) (hk : EatAt CE H re tags Gk) (he : EatAt CE H e3 tags.reverse Gr) :
    ∀ v ∈ [V.ref re, .ref e3, .non, .ref D], ∃ r, ProgV CE H v r := fun v hv => by
  have okr : OkWord tags.reverse := fun t ht => ok t (List.mem_reverse.mp ht)
  rcases List.mem_cons.mp hv with rfl | hv
  · exact ⟨.eat tags Gk, _, rfl, hk, ok⟩
  rcases List.mem_cons.mp hv with rfl | hv
  · exact ⟨.eat tags.reverse Gr, _, rfl, he, okr⟩
  rcases List.mem_cons.mp hv with rfl | hv
  · exact ⟨.non, rfl⟩
  rcases List.mem_cons.mp hv with rfl | hv
  · exact ⟨.lst, _, _, rfl, hD⟩
  cases hv
def LotO (CE : Addr) (H : Hp) (v : V) (r : Prog) (o : Out) : Prop := (∃ p us xs, v = .ref p ∧ H p = some (.lst us) ∧ Paired (ProgV CE H) us xs ∧ xs.length ≤ 1000 ∧ o = progOut xs r) ∨ (NoList H v ∧ o = .programs .non)
theorem LotO.same {CE : Addr} {H H' : Hp} {v : V} {r : Prog} {o : Out} (h : LotO CE H v r o) (s : Same H H') : LotO CE H' v r o := by
  rcases h with ⟨p, us, xs, a1, a2, a3, a4, a5⟩ | ⟨rfl | ⟨p, ys, rfl, hp⟩, a⟩
  · exact .inl ⟨p, us, xs, a1, s _ _ a2, paired_same a3 s, a4, a5⟩
  · exact .inr ⟨.inl rfl, a⟩
  · exact .inr ⟨.inr ⟨p, ys, rfl, s _ _ hp⟩, a⟩
theorem lot_out {CE : Addr} {H : Hp} {v : V} {r : Prog} (h : LotV CE H v) : ∃ o d, okOut o d ∧ LotO CE H v r o := by
  rcases h with ⟨p, us, xs, a1, a2, a3, a4⟩ | h
  · obtain ⟨d, hd⟩ := prog_ok (xs := xs) (r := r)
    exact ⟨_, d, hd, .inl ⟨p, us, xs, a1, a2, a3, a4, rfl⟩⟩
  · exact ⟨.programs .non, .none, (show placeD V.non PyData.none from .inl ⟨rfl, rfl⟩), .inr ⟨h, rfl⟩⟩
theorem due_prog {CE : Addr} {H : Hp} {ta v y : V} {r : Prog} {o : Out} {Q : VK} {E : XK} (h : LotO CE H v r o) (hy : ProgV CE H y r) (q : ∀ p H', Same H H' → H' p = some (.lst (outL o)) → Q (.ref p) H') : spProgDue CE [ta, v, y] H Q E := by
  rcases h with ⟨p, us, xs, a1, a2, a3, a4, rfl⟩ | ⟨nl, rfl⟩
  · exact ⟨ta, v, y, r, rfl, hy, .inl ⟨p, us, xs, a1, a2, a3, a4, fun p H' s _ hp => q p H' s hp⟩⟩
  · exact ⟨ta, v, y, r, rfl, hy, .inr ⟨nl, fun p H' s _ hp => q p H' s hp⟩⟩
theorem lot_pick {P : V → Prop} {xs : List V} {r : Nat} (hr : r < xs.length) (h : ∀ v ∈ xs, P v) : ∃ v, xs[r]? = some v ∧ P v :=
  ⟨xs[r], List.getElem?_eq_getElem hr, h _ (List.getElem_mem hr)⟩
end Law
end

section
set_option Elab.async false
set_option linter.all false
set_option maxRecDepth 100000
set_option maxHeartbeats 8000000
namespace Law
open PySem PySem.Spec PyProof.Rows L2 LamX QB QM QV
section
variable {P : Program} {w : World} {K : PySem.W.Frag} {mg : Str → Option Value} {base : Heap}
def spLaw (K : PySem.W.Frag) (T : List (Addr × Str)) : Sp := fun vs H Q _ => ∃ (l : Addr) (ns : List Int), vs = [.ref l] ∧ SqL K H l (ns.map V.int) ∧ Tabs T H ∧ ∀ H', Q (.bl true) H'
theorem ok_law (X : TX K mg) (TB : LamX.TabB base mg X.lam_c X.lam_P) (hB : ∃ mm, base.Ns sysModules mm) (hc : Room 10 callerA) : QT.RunG P w K mg base CX0 X.d_law.a X.d_law.fd "script" (spLaw K (Tof X)) := by
  have nd := sc_law.nd
  refine QT.run_ofG X.d_law.F sc_law hc (fun vs H Q E h => ?_) (fun cdv s0 H vs Q E hr h => ?_)
  · obtain ⟨l, ns, rfl, _⟩ := h
    rfl
  · obtain ⟨l, ns, rfl, hl, tb, q⟩ := h
    have hg := QT.guards0 (env := envOfC "law" (defScope s_law) s0.heap.objs.size X.d_law.a cdv)
    refine ⟨_, (pss_cons (ps_for PassesOwn.never rfl (pi_range1 (by rfl) X.n_range (pa_cons pe_int pa_nil)) (pg_name (i := 1) nd rfl (Or.inl rfl)) (pss_cons (ps_set (i := 2) nd rfl (Or.inr rfl) (pe_call (ok__law_pile X) (hr.mono (by decide)) rfl X.d__law_pile.mg X.d__law_pile.F.kp X.d__law_pile.b .nil pass0 (pa_cons (pv 0) (pa_cons (pv 1) pa_nil)))) (pss_cons (ps_set (i := 3) nd rfl (Or.inr rfl) (pe_call (ok__law_tags X) (hr.mono (by decide)) rfl X.d__law_tags.mg X.d__law_tags.F.kp X.d__law_tags.b .nil pass0 (pa_cons (pv 2) (pa_cons (pe_op op_add pe_int (pe_call (ok__law_take X) (hr.mono (by decide)) rfl X.d__law_take.mg X.d__law_take.F.kp X.d__law_take.b .nil pass0 (pa_cons (pv 2) (pa_cons pe_int pa_nil)))) pa_nil)))) (pss_cons (ps_setLc (i := 5) (own := [("turn", 4)]) (g := gName 4) (tt := tYes) rfl nd rfl rfl (sw_true rfl rfl rfl (by decide +kernel)) (pi_range1 (by rfl) X.n_range (pa_cons (pe_op op_add pe_int (pe_call (ok__law_take X) (hr.mono (by decide)) rfl X.d__law_take.mg X.d__law_take.F.kp X.d__law_take.b .nil pass0 (pa_cons (pv 2) (pa_cons pe_int pa_nil)))) pa_nil)) (blkOk_by (N := ["script", "at", "pile", "tags", "turn", "programs", "key", "strange", "mailbox", "many", "odd", "one", "other", "state", "way", "due", "words", "some", "lots", "lot", "reader"]) (sc := defScope s_law) (by decide +kernel)) (fun _ _ _ _ _ => pg_name (i := 4) nd rfl (Or.inl rfl)) (fun _ _ _ _ _ => pts_nil) (fun _ _ _ _ _ => (pe_make X.mk_Eater (ok_Eater___init__ X TB) (hr.mono (by decide)) rfl X.m_Eater X.d_Eater___init__.b .nil pass0 (pa_cons (pv 3) (pa_cons (pe_call (ok__law_standings X) (hr.mono (by decide)) rfl X.d__law_standings.mg X.d__law_standings.F.kp X.d__law_standings.b .nil pass0 (pa_cons (pv 2) (pa_cons (pv 3) (pa_cons pe_int (pa_cons pe_int pa_nil))))) pa_nil))))) (pss_cons (ps_set (i := 6) nd rfl (Or.inl rfl) (pe_make X.mk_Eater (ok_Eater___init__ X TB) (hr.mono (by decide)) rfl X.m_Eater X.d_Eater___init__.b .nil pass0 (pa_cons (pv 3) (pa_cons (pe_call (ok__law_standings X) (hr.mono (by decide)) rfl X.d__law_standings.mg X.d__law_standings.F.kp X.d__law_standings.b .nil pass0 (pa_cons (pv 2) (pa_cons (pv 3) (pa_cons pe_int (pa_cons pe_int pa_nil))))) pa_nil)))) (pss_cons (ps_set (i := 7) nd rfl (Or.inl rfl) (pe_make X.mk_Eater (ok_Eater___init__ X TB) (hr.mono (by decide)) rfl X.m_Eater X.d_Eater___init__.b .nil pass0 (pa_cons (QN.pe_turn K (pv 3)) (pa_cons (pe_lst (pa_cons (pe_tup (pa_cons (pe_lst pa_nil) (pa_cons (pe_op op_rep (pe_lst (pa_cons pe_non pa_nil)) (pe_callB (QB.call_lenK K) (by rfl) X.n_len PySem.boot_len (pa_cons (pv 3) pa_nil))) pa_nil))) pa_nil)) pa_nil)))) (pss_cons (ps_set (i := 8) nd rfl (Or.inl rfl) (pe_make X.mk_Mailbox (ok_Mailbox___init__ X) (hr.mono (by decide)) rfl X.m_Mailbox X.d_Mailbox___init__.b .nil pass0 (pa_cons (pv 5) (pa_cons (pv 6) pa_nil)))) (pss_cons (ps_set (i := 9) nd rfl (Or.inl rfl) (pe_call (ok__law_take X) (hr.mono (by decide)) rfl X.d__law_take.mg X.d__law_take.F.kp X.d__law_take.b .nil pass0 (pa_cons (pv 2) (pa_cons pe_int pa_nil)))) (pss_cons (ps_for PassesOwn.never rfl (pi_range1 (by rfl) X.n_range (pa_cons (pv 9) pa_nil)) (pg_name (i := 4) nd rfl (Or.inl rfl)) (pss_one (ps_expr (pe_meth (pv 8) X.cl_Mailbox X.h_Mailbox_begin (ok_Mailbox_begin X) (hr.mono (by decide)) X.d_Mailbox_begin.b .nil pass0 (pa_cons (pe_call (ok__law_word X) (hr.mono (by decide)) rfl X.d__law_word.mg X.d__law_word.F.kp X.d__law_word.b .nil pass0 (pa_cons (pv 2) (pa_cons (pv 3) (pa_cons pe_int pa_nil)))) pa_nil))))) (pss_cons (ps_for PassesOwn.never rfl (pi_range1 (by rfl) X.n_range (pa_cons pe_int pa_nil)) (pg_name (i := 4) nd rfl (Or.inl rfl)) (pss_cons (ps_set (i := 10) nd rfl (Or.inl rfl) (pe_lst (pa_cons (pv 9) (pa_cons (pe_op op_sub pe_int pe_int) (pa_cons pe_bl (pa_cons pe_non (pa_cons pe_str (pa_cons (pe_lst (pa_cons pe_int pa_nil)) (pa_cons (pe_op op_pow pe_int pe_int) (pa_cons pe_bl (pa_cons pe_int (pa_cons (pe_callB (QB.call_lenK K) (by rfl) X.n_len PySem.boot_len (pa_cons (pv 5) pa_nil)) (pa_cons (pe_tup (pa_cons pe_int pa_nil)) pa_nil))))))))))))) (pss_cons (ps_par (i := 11) (j := 12) (by rfl) nd rfl rfl (by decide) rfl rfl (pa_cons (pe_ix (QB.ix_listK K) (pv 10) (pe_call (ok__law_take X) (hr.mono (by decide)) rfl X.d__law_take.mg X.d__law_take.F.kp X.d__law_take.b .nil pass0 (pa_cons (pv 2) (pa_cons pe_int pa_nil))) (fun _ _ => rfl)) (pa_cons (pe_ix (QB.ix_listK K) (pv 10) (pe_call (ok__law_take X) (hr.mono (by decide)) rfl X.d__law_take.mg X.d__law_take.F.kp X.d__law_take.b .nil pass0 (pa_cons (pv 2) (pa_cons pe_int pa_nil))) (fun _ _ => rfl)) pa_nil)) (by rfl)) (pss_cons (ps_set (i := 13) nd rfl (Or.inl rfl) (QG.pe_callG (ok__law_state X hB) hg (hr.mono (by decide)) rfl X.d__law_state.mg X.d__law_state.F.kp X.d__law_state.b pass0 (pa_cons (pv 8) (pa_cons (pv 9) pa_nil)))) (pss_cons (ps_for PassesOwn.never rfl (pi_range2 (by rfl) X.n_range (pa_cons pe_int (pa_cons pe_int pa_nil))) (pg_name (i := 14) nd rfl (Or.inl rfl)) (pss_cons (ps_set (i := 15) nd rfl (Or.inl rfl) (pe_call (ok__law_number_due X) (hr.mono (by decide)) rfl X.d__law_number_due.mg X.d__law_number_due.F.kp X.d__law_number_due.b .nil pass0 (pa_cons (pv 14) (pa_cons (pv 9) (pa_cons (pe_callB (QB.call_lenK K) (by rfl) X.n_len PySem.boot_len (pa_cons (pv 5) pa_nil)) (pa_cons (pv 11) (pa_cons (pv 12) pa_nil))))))) (pss_one (ps_if (PW.pt (pw_and (pt_cmpR (QB.op_neDK K hr.units) (pv 15) (pe_lst (pa_cons pe_str pa_nil)) (nomark _)) (pw_and1 (pt_cmpR op_ne (pe_callTy (call_strV hg hr.units hB) (by rfl) X.n_str QB.bo_str (pa_cons (pe_call (ok__law_told X) (hr.mono (by decide)) rfl X.d__law_told.mg X.d__law_told.F.kp X.d__law_told.b .nil pass0 (pa_cons (pv 14) (pa_cons (pv 8) (pa_cons (pv 11) (pa_cons (pv 12) pa_nil))))) pa_nil)) (pe_callTy (call_strV hg hr.units hB) (by rfl) X.n_str QB.bo_str (pa_cons (pv 15) pa_nil)) (nomark _))))) (pss_one (ps_ret pe_bl)) pss_nil)))) (pss_cons (ps_set (i := 16) nd rfl (Or.inl rfl) (pe_lst (pa_cons (pe_lst (pa_cons (pe_ix (QB.ix_listK K) (pv 3) pe_int (fun _ _ => rfl)) (pa_cons pe_non pa_nil))) (pa_cons (pe_lst (pa_cons pe_int pa_nil)) (pa_cons (pe_ix (QB.ix_listK K) (pv 3) pe_int (fun _ _ => rfl)) (pa_cons pe_non (pa_cons (pe_callTy (QB.call_tupleK K) (by rfl) X.n_tuple QB.bo_tuple (pa_cons (pv 3) pa_nil)) (pa_cons (pe_op op_rep (pe_lst (pa_cons (pe_ix (QB.ix_listK K) (pv 3) pe_int (fun _ _ => rfl)) pa_nil)) pe_int) (pa_cons (pe_lst (pa_cons (pe_op op_add_str (pe_ix (QB.ix_listK K) (pv 3) pe_int (fun _ _ => rfl)) pe_str) pa_nil)) (pa_cons (pe_lst (pa_cons (pe_lst (pa_cons (pe_ix (QB.ix_listK K) (pv 3) pe_int (fun _ _ => rfl)) pa_nil)) pa_nil)) pa_nil)))))))))) (pss_cons (ps_set (i := 17) nd rfl (Or.inl rfl) (pe_ix (QB.ix_listK K) (pv 16) (pe_call (ok__law_take X) (hr.mono (by decide)) rfl X.d__law_take.mg X.d__law_take.F.kp X.d__law_take.b .nil pass0 (pa_cons (pv 2) (pa_cons pe_int pa_nil))) (fun _ _ => rfl))) (pss_cons (ps_if (pt_cmpR (QB.op_neDK K hr.units) (pe_call (ok__law_told X) (hr.mono (by decide)) rfl X.d__law_told.mg X.d__law_told.F.kp X.d__law_told.b .nil pass0 (pa_cons pe_int (pa_cons (pv 8) (pa_cons (pv 17) (pa_cons pe_non pa_nil))))) (pe_call (ok__law_subject_due X) (hr.mono (by decide)) rfl X.d__law_subject_due.mg X.d__law_subject_due.F.kp X.d__law_subject_due.b .nil pass0 (pa_cons (pv 3) (pa_cons (pv 17) pa_nil))) (nomark _)) (pss_one (ps_ret pe_bl)) pss_nil) (pss_cons (ps_set (i := 18) nd rfl (Or.inl rfl) (pe_lst (pa_cons (pv 5) (pa_cons (pe_op op_cat (pv 5) (pe_lst (pa_cons (pv 7) pa_nil))) (pa_cons (pe_op op_cat (pe_lst (pa_cons pe_non pa_nil)) (pv 5)) (pa_cons (pe_callTy (QB.call_tupleK K) (by rfl) X.n_tuple QB.bo_tuple (pa_cons (pv 5) pa_nil)) (pa_cons pe_non (pa_cons (pe_lst pa_nil) (pa_cons (pe_op op_rep (pv 5) pe_int) pa_nil))))))))) (pss_cons (ps_set (i := 19) nd rfl (Or.inl rfl) (pe_ix (QB.ix_listK K) (pe_op op_cat (pv 18) (pe_lst (pa_cons (pe_lst (pa_cons (pv 7) pa_nil)) pa_nil))) (pe_call (ok__law_take X) (hr.mono (by decide)) rfl X.d__law_take.mg X.d__law_take.F.kp X.d__law_take.b .nil pass0 (pa_cons (pv 2) (pa_cons pe_int pa_nil))) (fun _ _ => rfl))) (pss_cons (ps_set (i := 20) nd rfl (Or.inl rfl) (pe_ix (QB.ix_listK K) (pe_lst (pa_cons (pv 6) (pa_cons (pv 7) (pa_cons pe_non (pa_cons (pv 5) pa_nil))))) (pe_call (ok__law_take X) (hr.mono (by decide)) rfl X.d__law_take.mg X.d__law_take.F.kp X.d__law_take.b .nil pass0 (pa_cons (pv 2) (pa_cons pe_int pa_nil))) (fun _ _ => rfl))) (pss_cons (ps_if (pt_cmpR (QB.op_neDK K hr.units) (pe_call (ok__law_told X) (hr.mono (by decide)) rfl X.d__law_told.mg X.d__law_told.F.kp X.d__law_told.b .nil pass0 (pa_cons pe_int (pa_cons (pv 8) (pa_cons (pv 19) (pa_cons (pv 20) pa_nil))))) (pe_call (ok__law_programs_due X) (hr.mono (by decide)) rfl X.d__law_programs_due.mg X.d__law_programs_due.F.kp X.d__law_programs_due.b .nil pass0 (pa_cons (pv 3) (pa_cons (pv 19) (pa_cons (pv 20) pa_nil)))) (nomark _)) (pss_one (ps_ret pe_bl)) pss_nil) (pss_one (ps_if (PW.pt (pw_or (pt_cmpR op_ne (QG.pe_callG (ok__law_state X hB) hg (hr.mono (by decide)) rfl X.d__law_state.mg X.d__law_state.F.kp X.d__law_state.b pass0 (pa_cons (pv 8) (pa_cons (pv 9) pa_nil))) (pv 13) (nomark _)) (pw_or1 (pt_cmpR op_ne (pe_callB (QO.call_lenO (ok_Mailbox___len__ X) X.h_Mailbox___len__ (hr.mono (by decide)) X.d_Mailbox___len__.b pass0) (by rfl) X.n_len PySem.boot_len (pa_cons (pv 8) pa_nil)) (pv 9) (nomark _))))) (pss_one (ps_ret pe_bl)) pss_nil)))))))))))))) (pss_one (ps_if (pt_not (pt_val (pe_call (ok__law_long_right X TB) (hr.mono (by decide)) rfl X.d__law_long_right.mg X.d__law_long_right.F.kp X.d__law_long_right.b .nil pass0 (pa_cons (pv 3) pa_nil)))) (pss_one (ps_ret pe_bl)) pss_nil)))))))))))) (pss_one (ps_ret pe_bl))), ?_⟩
    clear hg
    try dsimp only [Cx.nox, Cx.wish, cxOf]
    refine ⟨(4 : Int), rfl, by decide, by decide, ?_⟩
    refine for_it (walk_range (lo := 0) (n := 4)) (fun i σ H' => ∃ v1 v2 v3 v4 v5 v6 v7 v8 v9 v10 v11 v12 v13 v14 v15 v16 v17 v18 v19 v20 : Option V, σ = [some (.ref l), v1, v2, v3, v4, v5, v6, v7, v8, v9, v10, v11, v12, v13, v14, v15, v16, v17, v18, v19, v20] ∧ QB.Ext (Tof X) H H')
      ⟨none, none, none, none, none, none, none, none, none, none, none, none, none, none, none, none, none, none, none, none, rfl, .refl⟩ (fun _ _ _ _ _ => True.intro) ?_ ?_
    · rintro i x σ H1 H2 hi ⟨v1, v2, v3, v4, v5, v6, v7, v8, v9, v10, v11, v12, v13, v14, v15, v16, v17, v18, v19, v20, rfl, e1⟩ ⟨rfl, rfl⟩
      refine ⟨_, rfl, _, rfl, ?_⟩
      refine ⟨l, ns, 0 + i, rfl, e1.sqL hl, fun p G0 s0' np P0 => ?_⟩
      have c0 : Pl (Tof X) H G0 [p] p := ⟨e1.trans (.of s0'), fun n h => List.mem_singleton.mp h ▸ e1.fresh (.of np), fun n h => by
        obtain ⟨_, _, _, z⟩ := P0
        exact ⟨_, List.mem_singleton.mp h ▸ z⟩, P0, List.mem_cons_self⟩
      clear s0' np e1 P0
      refine ⟨_, rfl, _, rfl, p, 2, rfl, by decide, by decide, c0.pl, fun r G1 hr x1 P1 => ?_⟩
      have c1 := c0.draw x1 P1
      refine ⟨_, _, rfl, rfl, ?_⟩
      refine ⟨p, 2 + r, rfl, by omega, by omega, P1, fun tags a G2 to nq tl x2 P2 na wa => ?_⟩
      have c2 := c1.draw x2 P2
      have ap : a ∉ [p] := fun z => by
        have h := List.mem_singleton.mp z
        obtain ⟨_, _, _, y⟩ := P1
        rw [h, y] at na
        cases na
      have tg2 : WordAt (hideT [p] G2) a tags := hideT_at ap wa
      clear x1 P1 x2 P2 na wa c1 c0
      -- programs
      refine ⟨_, rfl, p, 3, rfl, by decide, by decide, c2.pl, fun r3 G3 hr3 x3 P3 => ?_⟩
      have c3 := c2.draw x3 P3
      have tg3 := Same.word (hideT_exc (fun _ h => h) x3) tg2
      clear x3 c2 tg2
      refine ⟨_, _, rfl, rfl, ((1 + r3 : Nat) : Int), rfl, by omega, by omega, fun D nD => ?_⟩
      have pD : p ≠ D := P3.ne nD
      rw [show (((1 + r3 : Nat) : Int)).toNat = 1 + r3 by omega]
      refine lc_it (walk_range (lo := 0) (n := 1 + r3)) (fun m H' => Pl (Tof X) H H' [D, p] p ∧ WordAt (hideT [D, p] H') a tags ∧ ∃ (es : List Addr) (Fs : List Form), Fs.length = m ∧ H' D = some (.lst (es.map V.ref)) ∧ Paired (fun e G => EatAt X.c_Eater (hideT [D, p] H') e tags G) es (Fs.map (least tags)) ∧ (∀ F ∈ Fs, FormOk tags F) ∧ (∀ F ∈ Fs, ∀ s ∈ F, s.1.length ≤ 1))
        ⟨c3.grow (same_new nD) nD ⟨_, upd_same⟩, Same.word (hideT_grow nD (same_new nD)) tg3, [], [], rfl, upd_same, .nil, (fun _ h => nomatch h), fun _ h => nomatch h⟩ (fun _ _ _ _ => True.intro) ?_ ?_
      · rintro m x H4' H4 hm ⟨c4, tg4, es, Fs, hlen, hD4, hP, hok, hlo⟩ ⟨rfl, rfl⟩
        refine ⟨rfl, _, rfl, _, rfl, _, rfl, p, a, tags, 2, 1, rfl, by decide, by decide, by decide, c4.pl, Same.word hideT_sub tg4, to, fun F L f H6 fo fl fw x6 p6 n6 => ?_⟩
        have c6 := c4.draw x6 p6
        have y6 : Same (hideT [D, p] H4) (hideT [D, p] H6) := hideT_exc (fun n h => List.mem_singleton.mp h ▸ List.mem_cons_of_mem _ List.mem_cons_self) x6
        have hD6 := x6 D _ (by simpa using pD.symm) hD4
        have hel : es.length = Fs.length := by
          have := Paired.length hP
          rw [List.length_map] at this
          exact this
        have hf6 := nf_hide c4.ls n6
        have tg6 := Same.word y6 tg4
        have hP6 := L2.Paired.mapP hP fun _ _ z => z.same y6
        clear y6 x6 p6 n6 hP tg4 c4 hD4
        refine fun e dx he hd hne => ?_
        have t6 := c6.ext.2 tb
        have sM : Same H6 (upd (upd H6 dx (.own e)) e (.ins X.c_Eater dx [])) := Same.new (same_new hd) ((upd_ne hne.symm).trans he)
        refine ⟨e, dx, a, f, tags, F, H6, rfl, upd_same, Same.word sM (Same.word hideT_sub tg6), Same.form sM (Same.form hideT_sub hf6), to, fo, t6.ext sM, .of sM, .of he, fun a' b' L' H7 e7 t7 n7 => ⟨rfl, ?_⟩⟩
        have c7 := c6.exT e7
        have hD7 := e7.lst hD6
        have y7 : Same (hideT [D, p] H6) (hideT [D, p] H7) := hideT_ext e7
        have y8 : Same (hideT [D, p] H7) (hideT [D, p] (upd H7 D (.lst (es.map V.ref ++ [V.ref e])))) := hideT_put List.mem_cons_self
        refine ⟨_, hD7, by rw [List.length_map, hel, hlen]; exact sz_lt (by omega), c7.put List.mem_cons_self pD, Same.word (y7.trans y8) tg6, es ++ [e], Fs ++ [F], by rw [List.length_append, hlen]; rfl, by rw [upd_same, List.map_append]; rfl, ?_, ?_, ?_⟩
        · rw [List.map_append]
          exact Paired.snoc (L2.Paired.mapP hP6 fun _ _ z => z.same (y7.trans y8)) ((ea_hide c6.ls n7).same y8)
        · intro G hG
          rcases List.mem_append.mp hG with h | h
          · exact hok G h
          · rw [List.mem_singleton.mp h]
            exact fo
        · intro G hG
          rcases List.mem_append.mp hG with h | h
          · exact hlo G h
          · rw [List.mem_singleton.mp h]
            exact fw
      rintro H4 ⟨c4, tg4, es, Fs, hlen, hD4, hP, hok, hlo⟩
      have c4 := c4.less pD
      have hev4 : hideT [p] H4 D = some (.lst (es.map V.ref)) := hideT_at (by simpa using pD.symm) hD4
      have tg4 := Same.word hideT_less tg4
      have hP4 := L2.Paired.mapP hP fun _ _ z => z.same hideT_less
      clear hD4 hP tg3 nD c3 P3
      -- key
      refine ⟨_, rfl, _, rfl, _, rfl, p, a, tags, 2, 1, rfl, by decide, by decide, by decide, c4.pl, Same.word hideT_sub tg4, to, fun F L b H5 fo fl fw x5 p5 n5 => ?_⟩
      have c5 := c4.draw x5 p5
      have y5 : Same (hideT [p] H4) (hideT [p] H5) := hideT_exc (fun _ h => h) x5
      have tg5 := Same.word y5 tg4
      have hev5 := y5 _ _ hev4
      have hP5 := L2.Paired.mapP hP4 fun _ _ z => z.same y5
      have hb5 := nf_hide c4.ls n5
      clear y5 n5 x5 p5 tg4 hP4 hev4 c4
      refine fun re dx he hd hne => ?_
      have t5 := c5.ext.2 tb
      have sM : Same H5 (upd (upd H5 dx (.own re)) re (.ins X.c_Eater dx [])) := Same.new (same_new hd) ((upd_ne hne.symm).trans he)
      refine ⟨re, dx, a, b, tags, F, H5, rfl, upd_same, Same.word sM (Same.word hideT_sub tg5), Same.form sM (Same.form hideT_sub hb5), to, fo, t5.ext sM, .of sM, .of he, fun a' b' L' H7 e7 t7 n7 => ⟨rfl, ?_⟩⟩
      have c7 := c5.exT e7
      have y7 : Same (hideT [p] H5) (hideT [p] H7) := hideT_ext e7
      have tg7 := Same.word y7 tg5
      have hev7 := y7 _ _ hev5
      have hP7 := L2.Paired.mapP hP5 fun _ _ z => z.same y7
      have re7 := ea_hide c5.ls n7
      clear sM t5 he hd hne e7 t7 n7 hP5 hev5 tg5 hb5 c5 y7
      -- strange
      refine ⟨_, rfl, a, _, rfl, SqL.of (hideT_sub _ _ tg7), fun g1 n1 => ?_⟩
      have s1 := same_new (o := .lst (vS tags).reverse) n1
      have h1 : WordAt (upd H7 g1 (.lst (vS tags).reverse)) g1 tags.reverse := by
        show upd _ _ _ _ = _
        rw [upd_same]
        unfold vS
        rw [List.map_reverse]
      generalize upd H7 g1 (.lst (vS tags).reverse) = H8 at s1 h1 ⊢
      refine ⟨by show 0 ≤ sizeLine; decide, fun g2 n2 => ?_⟩
      have s2 := same_new (o := .lst []) n2
      have h2 : WordAt (upd H8 g2 (.lst [])) g2 [] := upd_same
      generalize upd H8 g2 (.lst []) = H9 at s2 h2 ⊢
      refine ⟨by show 1 ≤ sizeLine; decide, fun g3 n3 => ?_⟩
      have s3 := same_new (o := .lst [V.non]) n3
      have h3 : (upd H9 g3 (.lst [V.non])) g3 = some (.lst [V.non]) := upd_same
      generalize upd H9 g3 (.lst [V.non]) = H10 at s3 h3 ⊢
      have s13 := (s1.trans s2).trans s3
      refine ⟨_, rfl, _, _, rfl, .inl (SqL.of (s13 _ _ (hideT_sub _ _ tg7))), g3, ((vS tags).length : Int), _, rfl, rfl, h3, by omega, by rw [vS_len]; omega, by rw [vS_len]; show 1 * ((tags.length : Nat) : Int).toNat ≤ sizeLine; exact sz_le (by omega), fun g4 n4 => ?_⟩
      have s4 := same_new (o := .lst (List.replicate ((vS tags).length : Int).toNat [V.non]).flatten) n4
      have h4 : WaysAt (upd H10 g4 (.lst (List.replicate ((vS tags).length : Int).toNat [V.non]).flatten)) g4 (List.replicate tags.reverse.length none) := by
        show upd _ _ _ _ = _
        rw [upd_same, vS_len, show ((tags.length : Nat) : Int).toNat = tags.length from by omega, List.length_reverse]
        congr 2
        generalize tags.length = n
        induction n with
        | zero => rfl
        | succ n ih =>
          rw [List.replicate_succ, List.flatten_cons, ih, List.replicate_succ]
          rfl
      generalize upd H10 g4 (.lst (List.replicate ((vS tags).length : Int).toNat [V.non]).flatten) = H11 at s4 h4 ⊢
      refine ⟨by show 2 ≤ sizeLine; decide, fun g5 n5 => ?_⟩
      have s5 := same_new (o := .tup [V.ref g2, V.ref g4]) n5
      have h5 : (upd H11 g5 (.tup [V.ref g2, V.ref g4])) g5 = some (.tup [V.ref g2, V.ref g4]) := upd_same
      generalize upd H11 g5 (.tup [V.ref g2, V.ref g4]) = H12 at s5 h5 ⊢
      refine ⟨by show 1 ≤ sizeLine; decide, fun g6 n6 => ?_⟩
      have s6 := same_new (o := .lst [V.ref g5]) n6
      have h6 : (upd H12 g6 (.lst [V.ref g5])) g6 = some (.lst [V.ref g5]) := upd_same
      generalize upd H12 g6 (.lst [V.ref g5]) = H13 at s6 h6 ⊢
      have s26 := (s2.trans s3).trans ((s4.trans s5).trans s6)
      have tr := TagsOk.rev to
      have fr := oneOk (u := []) tr (fun _ h => nomatch h) (by show 0 ≤ 8; omega)
      have hF : FormAt H13 g6 [([], List.replicate tags.reverse.length none)] := ⟨[g5], h6, .cons ⟨g2, g4, s6 _ _ h5, Same.word ((s3.trans s4).trans (s5.trans s6)) h2, (s5.trans s6) _ _ h4⟩ .nil⟩
      have c13 := c7.same (s1.trans s26)
      have y13 : Same (hideT [p] H7) (hideT [p] H13) := hideT_same (s1.trans s26)
      have tg13 := Same.word y13 tg7
      have hev13 := y13 _ _ hev7
      have hP13 := L2.Paired.mapP hP7 fun _ _ z => z.same y13
      have re13 := re7.same y13
      have hg1 := Same.word s26 h1
      clear h1 h2 h3 h4 h5 h6 s1 s2 s3 s4 s5 s6 s13 s26 n1 n2 n3 n4 n5 n6 y13 tg7 hev7 hP7 re7 c7
      refine fun e3 dx he hd hne => ?_
      have t5 := c13.ext.2 tb
      have sM : Same H13 (upd (upd H13 dx (.own e3)) e3 (.ins X.c_Eater dx [])) := Same.new (same_new hd) ((upd_ne hne.symm).trans he)
      refine ⟨e3, dx, g1, g6, tags.reverse, _, H13, rfl, upd_same, Same.word sM hg1, Same.form sM hF, tr, fr, t5.ext sM, .of sM, .of he, fun a' b' L' H14 e7 t7 n7 => ⟨rfl, ?_⟩⟩
      have c14 := c13.exT e7
      have y7 : Same (hideT [p] H13) (hideT [p] H14) := hideT_ext e7
      have tg14 := Same.word y7 tg13
      have hev14 := y7 _ _ hev13
      have hP14 := L2.Paired.mapP hP13 fun _ _ z => z.same y7
      have re14 := re13.same y7
      have e14 := ea_hide c13.ls n7
      generalize least tags.reverse [([], List.replicate tags.reverse.length none)] = Gr at e14
      clear sM t5 he hd hne e7 t7 n7 hP13 hev13 tg13 hg1 hF c13 y7 fr re13
      -- the mailbox
      have gF : ∀ G ∈ Fs, Good tags G := fun G hG => (hok G hG).good
      have ok : BoxOk tags (Fs.map (least tags)) (least tags F) := by
        refine ⟨to, fun G hG => ?_, ⟨(fun h => least_good (FormOk.good h)) fo, least_wordsF to fo, fun s hs => ?_⟩, by rw [List.length_map]; omega, by rw [List.length_map]; omega⟩
        · obtain ⟨G', hG', rfl⟩ := List.mem_map.mp hG
          refine ⟨least_good (gF G' hG'), least_wordsF to (hok G' hG'), fun s hs => ?_⟩
          obtain ⟨s', h1, h2⟩ := least_word (gF G' hG') hs
          rw [h2]
          have := hlo G' hG' s' h1
          omega
        · obtain ⟨s', h1, h2⟩ := least_word fo.good hs
          rw [h2]
          exact fw s' h1
      have okw : OkWord tags := fun t ht => (to.names t ht).txt
      have hGl : (Fs.map (least tags)).length = 1 + r3 := by rw [List.length_map, hlen]
      clear gF hok hlo hlen
      generalize Fs.map (least tags) = Gs at hP14 ok hGl
      generalize least tags F = Gk at re14 ok
      clear fo fw
      refine ⟨_, rfl, _, rfl, fun m dx h1 h2 h3 => ?_⟩
      refine make_box h1 h2 h3 ⟨hideT_sub _ _ hev14, L2.Paired.mapP hP14 fun _ _ z => z.same hideT_sub⟩ (re14.same hideT_sub) okw ok.pos ok.few fun pl ll H15 s15 nm np nl npl mll hm hp hll => ?_
      have y15 : Same (hideT [p] H14) (hideT [ll, p] H15) := hideT_grow nl s15
      have c15 := c14.grow s15 nl ⟨_, hll⟩
      have hev15 := y15 _ _ hev14
      have hP15 := L2.Paired.mapP hP14 fun _ _ z => z.same y15
      have re15 := re14.same y15
      have W15 : Cell X.c_Eater X.c_Mailbox (Tof X) H H15 p a D re e3 m ll es tags Gs Gk Gr [] := ⟨c15, Same.word y15 tg14, hev15, hP15, re15, e14.same y15, ⟨dx, pl, re, es, [], hideT_hide _ _ (hideT_at (fun z => (List.mem_cons.mp z).elim mll fun y => c14.out nm y) hm), ⟨hideT_hide _ _ (hideT_at (fun z => (List.mem_cons.mp z).elim npl fun y => c14.out np y) hp), L2.Paired.mapP hP15 fun _ _ z => z.same hideT_hide⟩, re15.same hideT_hide, hll, .nil, List.mem_cons_self⟩, c14.pl.ne nl⟩
      clear hm hp h1 h2 h3 y15 s15 nm np nl npl mll hP15 hP14 re14 re15 e14 tg14 hev14 hev15 c14 c15 hll
      -- letters
      refine ⟨_, rfl, p, 4, rfl, by decide, by decide, W15.pl.pl, fun r4 H16 hr4 x16 p16 => ?_⟩
      have W16 := W15.draw x16 p16
      clear W15 x16 p16
      refine ⟨_, rfl, (r4 : Int), rfl, by omega, by omega, ?_⟩
      refine for_it (walk_range (lo := 0) (n := ((r4 : Nat) : Int).toNat)) (fun j σ H' => ∃ (v1 v4 v10 v11 v12 v13 v14 v15 v16 v17 v18 v19 v20 : Option V) (ws : List Word), σ = [some (.ref l), v1, some (.ref p), some (.ref a), v4, some (.ref D), some (.ref re), some (.ref e3), some (.ref m), some (.int (r4 : Int)), v10, v11, v12, v13, v14, v15, v16, v17, v18, v19, v20] ∧ Cell X.c_Eater X.c_Mailbox (Tof X) H H' p a D re e3 m ll es tags Gs Gk Gr ws ∧ WsOk tags 4 ws ∧ ws.length = j)
        ⟨_, _, _, _, _, _, _, _, _, _, _, _, _, [], rfl, W16, (fun _ h => nomatch h), rfl⟩ (fun _ _ _ _ _ => True.intro) ?_ ?_
      · clear W16
        clear v1 v2 v3 v4 v5 v6 v7 v8 v9 v10 v11 v12 v13 v14 v15 v16 v17 v18 v19 v20
        rintro j x σ H17' H17 hj ⟨v1, v4, v10, v11, v12, v13, v14, v15, v16, v17, v18, v19, v20, ws, rfl, W17, wo, wl⟩ ⟨rfl, rfl⟩
        obtain ⟨dxm, plm, kem, tsm, hom, _, _⟩ := boxObj W17.bx
        refine ⟨_, rfl, m, dxm, _, rfl, hom, rfl, ?_⟩
        refine ⟨_, rfl, _, rfl, p, a, tags, 4, rfl, by decide, W17.pl.pl, W17.tags_, to, fun wd c H18 hin hwl x18 p18 nc hc => ?_⟩
        have W18 := W17.draw x18 p18
        refine ⟨[ll, p], m, ll, c, tags, Gs, Gk, ws, wd, rfl, W18.bx, ok, W18.pl.none, hc, hin, by omega, by omega, fun H19 b19 x19 n19 => ?_⟩
        exact ⟨_, _, _, _, _, _, _, _, _, _, _, _, _, _, rfl, W18.come x19 b19, wo.snoc hin hwl, by rw [List.length_append, wl]; rfl⟩
      clear W16
      clear v1 v2 v3 v4 v5 v6 v7 v8 v9 v10 v11 v12 v13 v14 v15 v16 v17 v18 v19 v20
      rintro σ H17 ⟨v1, v4, v10, v11, v12, v13, v14, v15, v16, v17, v18, v19, v20, ws, rfl, W17, wo, wl⟩
      have wl : ws.length = r4 := by omega
      subst wl
      have hes : es.length = Gs.length := Paired.length W17.ev
      -- eight turns
      refine ⟨(8 : Int), rfl, by decide, by decide, ?_⟩
      refine for_it (walk_range (lo := 0) (n := 8)) (fun j σ H' => ∃ (v1 v4 v10 v11 v12 v13 v14 v15 v16 v17 v18 v19 v20 : Option V), σ = [some (.ref l), v1, some (.ref p), some (.ref a), v4, some (.ref D), some (.ref re), some (.ref e3), some (.ref m), some (.int (ws.length : Int)), v10, v11, v12, v13, v14, v15, v16, v17, v18, v19, v20] ∧ Cell X.c_Eater X.c_Mailbox (Tof X) H H' p a D re e3 m ll es tags Gs Gk Gr ws)
        ⟨_, _, _, _, _, _, _, _, _, _, _, _, _, rfl, W17⟩ (fun _ _ _ _ _ => True.intro) ?_ ?_
      · clear W17 v1 v4 v10 v11 v12 v13 v14 v15 v16 v17 v18 v19 v20
        rintro j x σ H18' H18 hj ⟨v1, v4, v10, v11, v12, v13, v14, v15, v16, v17, v18, v19, v20, rfl, W18⟩ ⟨rfl, rfl⟩
        -- odd
        refine ⟨_, rfl, _, _, rfl, rfl, ?_⟩
        refine ⟨by show 1 ≤ sizeLine; decide, fun q1 n1 => ?_⟩
        have s1 := same_new (o := .lst [V.int 0]) n1
        have h1 : hide [ll, p] (upd H18 q1 (.lst [V.int 0])) q1 = some (.lst [V.int 0]) := hide_at (W18.pl.out n1) upd_same
        generalize upd H18 q1 (.lst [V.int 0]) = H19 at s1 h1 ⊢
        have W19 := W18.same s1
        refine ⟨_, _, rfl, rfl, ⟨by decide, by decide, by decide⟩, ?_⟩
        refine ⟨_, rfl, D, _, rfl, .inl (SqL.of (hideT_sub _ _ W19.pr)), ?_⟩
        refine ⟨by show 1 ≤ sizeLine; decide, fun q2 n2 => ?_⟩
        have s2 := same_new (o := .tup [V.int 0]) n2
        have h2 : hide [ll, p] (upd H19 q2 (.tup [V.int 0])) q2 = some (.tup [V.int 0]) := hide_at (W19.pl.out n2) upd_same
        generalize upd H19 q2 (.tup [V.int 0]) = H20 at s2 h2 ⊢
        have W20 := W19.same s2
        refine ⟨by show 11 ≤ sizeLine; decide, fun ol n3 => ?_⟩
        rw [List.length_map, hes]
        have os := odds (n := ws.length) (k := Gs.length) (by omega) (by omega) (hide_same s2 _ _ h1) h2
        generalize hov' : [V.int ((ws.length : Nat) : Int), .int (0 - 1), .bl true, .non, .str "0", .ref q1, .int (10 ^ (20 : Int).toNat), .bl false, .int 0, .int ((Gs.length : Nat) : Int), .ref q2] = ov at os ⊢
        have hov : ov.length = 11 := by rw [← hov']; rfl
        have s3 := same_new (o := .lst ov) n3
        have h3 : hide [ll, p] (upd H20 ol (.lst ov)) ol = some (.lst ov) := hide_at (W20.pl.out n3) upd_same
        generalize upd H20 ol (.lst ov) = H21 at s3 h3 ⊢
        have W21 := W20.same s3
        have os : ∀ v ∈ ov, ∃ d, Dv (hide [ll, p] H21) v d ∧ Odd d := fun v hv => by
          obtain ⟨d, a1, a2⟩ := os v hv
          exact ⟨d, a1.same (hide_same s3), a2⟩
        clear hov' h1 h2 s1 s2 s3 n1 n2 n3 W18 W19 W20
        have hp2 : p ∈ [ll, p] := List.mem_cons_of_mem _ List.mem_cons_self
        -- one, other
        refine ⟨_, rfl, _, rfl, p, 11, rfl, by decide, by decide, W21.pl.pl, fun r1 H22 hr1 x22 p22 => ?_⟩
        have W22 := W21.draw x22 p22
        have y22 : Same (hide [ll, p] H21) (hide [ll, p] H22) := hide_exc hp2 x22
        obtain ⟨one, ho1, d1, dv1, od1⟩ := odd_pick (r := r1) (by omega) os
        have h3 := y22 _ _ h3
        refine ⟨ol, _, _, one, rfl, rfl, SqL.of (hide_sub _ _ h3), atI_nat ho1, ?_⟩
        refine ⟨_, rfl, _, rfl, p, 11, rfl, by decide, by decide, W22.pl.pl, fun r2 H23 hr2 x23 p23 => ?_⟩
        have W23 := W22.draw x23 p23
        have y23 : Same (hide [ll, p] H22) (hide [ll, p] H23) := hide_exc hp2 x23
        obtain ⟨other, ho2, d2, dv2, od2⟩ := odd_pick (r := r2) (by omega) os
        have h3 := y23 _ _ h3
        refine ⟨ol, _, _, other, rfl, rfl, SqL.of (hide_sub _ _ h3), atI_nat ho2, ?_⟩
        have dv1 := (dv1.same y22).same y23
        have dv2 := (dv2.same y22).same y23
        clear os h3 y22 y23 x22 x23 p22 p23 W21 W22 ho1 ho2
        refine ⟨_, _, rfl, ?_⟩
        -- state
        refine ⟨_, rfl, _, rfl, [ll, p], m, ll, tags, Gs, Gk, ws, rfl, W23.bx, ok, (fun wd h => ⟨(wo wd h).1, by have := (wo wd h).2; omega⟩), by omega, fun H24 s24 => ?_⟩
        have W24 := W23.same s24
        have dv1 := dv1.same (hide_same s24)
        have dv2 := dv2.same (hide_same s24)
        clear s24 W23
        -- numbers
        refine ⟨(1 : Int), (6 : Int), rfl, by decide, ?_⟩
        refine for_it (walk_range (lo := 1) (n := ((6 : Int) - 1).toNat)) (fun i σ H' => ∃ (v4 v10 v14 v15 v16 v17 v18 v19 v20 : Option V), σ = [some (.ref l), v1, some (.ref p), some (.ref a), v4, some (.ref D), some (.ref re), some (.ref e3), some (.ref m), some (.int (ws.length : Int)), v10, some one, some other, some (.str (dState tags Gk ws).shown), v14, v15, v16, v17, v18, v19, v20] ∧ Cell X.c_Eater X.c_Mailbox (Tof X) H H' p a D re e3 m ll es tags Gs Gk Gr ws ∧ Dv (hide [ll, p] H') one d1 ∧ Dv (hide [ll, p] H') other d2)
          ⟨_, _, _, _, _, _, _, _, _, rfl, W24, dv1, dv2⟩ (fun _ _ _ _ _ => True.intro) ?_ ?_
        · clear W24 dv1 dv2 v4 v10 v11 v12 v13 v14 v15 v16 v17 v18 v19 v20
          rintro i2 x σ H25' H25 hi2 ⟨v4, v10, v14, v15, v16, v17, v18, v19, v20, rfl, W25, dv1, dv2⟩ ⟨rfl, hx⟩
          have hi2 : i2 < 5 := hi2
          obtain rfl : x = V.int ((1 + i2 : Nat) : Int) := by
            have e : V.int (1 + (i2 : Int)) = V.int ((1 + i2 : Nat) : Int) := by
              congr 1 <;> omega
            first
              | exact hx.trans e
              | exact hx.symm.trans e
          refine ⟨_, rfl, _, rfl, _, rfl, D, _, rfl, .inl (SqL.of (hideT_sub _ _ W25.pr)), _, rfl, _, rfl, ?_⟩
          rw [List.length_map, hes]
          refine ⟨1 + i2, ws.length, Gs.length, one, other, d1, d2, rfl, dv1.same hide_sub, dv2.same hide_sub, fun du H26 s26 ndu hdu => ?_⟩
          have W26 := W25.same s26
          have dv1 := dv1.same (hide_same s26)
          have dv2 := dv2.same (hide_same s26)
          refine ⟨_, rfl, by show 1 ≤ sizeLine; decide, fun q3 n3 => ?_⟩
          have s27 := same_new (o := .lst [V.str "let"]) n3
          have hq3 : (upd H26 q3 (.lst [V.str "let"])) q3 = some (.lst [V.str "let"]) := upd_same
          generalize upd H26 q3 (.lst [V.str "let"]) = H27 at s27 hq3 ⊢
          have W27 := W26.same s27
          have dv1 := dv1.same (hide_same s27)
          have dv2 := dv2.same (hide_same s27)
          have hdu := s27 _ _ hdu
          have cs : numOut (1 + i2) ws.length Gs.length one other d1 d2 = .let_ ∨ ∃ u d, Odd d ∧ Dv (hide [ll, p] H27) u d ∧ numOut (1 + i2) ws.length Gs.length one other d1 d2 = .number u := by
            rcases numOut_cases (1 + i2) ws.length Gs.length one other d1 d2 with e | e | e
            · exact .inl e
            · exact .inr ⟨one, d1, od1, dv1, e⟩
            · exact .inr ⟨other, d2, od2, dv2, e⟩
          rcases cs with e | ⟨u, d, od, dvu, e⟩
          · rw [e] at hdu
            refine eq_let hdu hq3 ?_
            refine ⟨_, rfl, iteF ?_⟩
            exact ⟨_, _, _, _, _, _, _, _, _, rfl, W27, dv1, dv2⟩
          · have hdu' := hdu
            rw [e] at hdu
            refine ne_let od (dvu.same hide_sub) hdu hq3 ?_
            refine ⟨_, rfl, iteT ?_⟩
            refine ⟨_, rfl, _, rfl, _, rfl, _, rfl, ?_⟩
            try dsimp only [tNil, tCons, tC]
            refine told_num (way := 1 + i2) ⟨by omega, by omega⟩ W27.bx ok (fun wd h => ⟨(wo wd h).1, by have := (wo wd h).2; omega⟩) W27.pl.none (by omega) (dv1.same hide_sub) (dv2.same hide_sub) (by rw [e]; exact fun z => nomatch z) fun q4 H28 s28 hq4 => ?_
            rw [e] at hq4
            have dvu := (dvu.same hide_sub).same s28
            refine str_odd od dvu hq4 ?_
            refine ⟨_, rfl, ?_⟩
            try dsimp only [tNil, tCons, tC]
            refine str_odd od dvu (s28 _ _ hdu) ?_
            refine ⟨rfl, _, rfl, ?_⟩
            rw [decide_eq_true rfl]
            refine iteF ?_
            exact ⟨_, _, _, _, _, _, _, _, _, rfl, W27.same s28, dv1.same (hide_same s28), dv2.same (hide_same s28)⟩
        clear W24 dv1 dv2 v4 v10 v11 v12 v13 v14 v15 v16 v17 v18 v19 v20
        rintro σ H25 ⟨v4, v10, v14, v15, v16, v17, v18, v19, v20, rfl, W25, _, _⟩
        have hp2 : p ∈ [ll, p] := List.mem_cons_of_mem _ List.mem_cons_self
        have htp := to.pos
        have e0 : tags[0]? = some (tags[0]'(by omega)) := List.getElem?_eq_getElem (by omega)
        have m0 : tags[0]'(by omega) ∈ tags := List.getElem_mem _
        generalize tags[0]'(by omega) = t0 at e0 m0
        have lq : t0.length + (Str.ofString "q").length ≤ sizeLine := by
          have := (to.names t0 m0).len
          have l1 : (Str.ofString "q").length = 1 := by decide +kernel
          rw [l1]
          exact sz_le (by omega)
        -- words
        refine ⟨_, rfl, a, _, _, _, rfl, rfl, SqL.of W25.tags_, atI_nat (j := 0) (vS_get e0), by show 2 ≤ sizeLine; decide, fun w1 n_w1 => ?_⟩
        have s_w1 := same_new (o := .lst [V.str t0, V.non]) n_w1
        have h_w1 : hide [ll, p] (upd H25 w1 (.lst [V.str t0, V.non])) w1 = some (.lst [V.str t0, V.non]) := hide_at (W25.pl.out n_w1) upd_same
        generalize upd H25 w1 (.lst [V.str t0, V.non]) = H26 at s_w1 h_w1 ⊢
        have W26 := W25.same s_w1
        clear s_w1 n_w1 W25
        refine ⟨by show 1 ≤ sizeLine; decide, fun w2 n_w2 => ?_⟩
        have s_w2 := same_new (o := .lst [V.int 0]) n_w2
        have h_w2 : hide [ll, p] (upd H26 w2 (.lst [V.int 0])) w2 = some (.lst [V.int 0]) := hide_at (W26.pl.out n_w2) upd_same
        generalize upd H26 w2 (.lst [V.int 0]) = H27 at s_w2 h_w2 ⊢
        have W27 := W26.same s_w2
        have h_w1 := hide_same s_w2 _ _ h_w1
        clear s_w2 n_w2 W26
        refine ⟨_, rfl, a, _, _, _, rfl, rfl, SqL.of W27.tags_, atI_nat (j := 0) (vS_get e0), ?_⟩
        refine ⟨_, rfl, a, _, rfl, .inl ⟨SqL.of W27.tags_, fun w5 n_w5 => ?_⟩⟩
        have s_w5 := same_new (o := .tup (vS tags)) n_w5
        have h_w5 : hide [ll, p] (upd H27 w5 (.tup (vS tags))) w5 = some (.tup (vS tags)) := hide_at (W27.pl.out n_w5) upd_same
        generalize upd H27 w5 (.tup (vS tags)) = H28 at s_w5 h_w5 ⊢
        have W28 := W27.same s_w5
        have h_w1 := hide_same s_w5 _ _ h_w1
        have h_w2 := hide_same s_w5 _ _ h_w2
        clear s_w5 n_w5 W27
        refine ⟨_, rfl, a, _, _, _, rfl, rfl, SqL.of W28.tags_, atI_nat (j := 0) (vS_get e0), by show 1 ≤ sizeLine; decide, fun g6 n_g6 => ?_⟩
        have s_g6 := same_new (o := .lst [V.str t0]) n_g6
        have h_g6 : hide [ll, p] (upd H28 g6 (.lst [V.str t0])) g6 = some (.lst [V.str t0]) := hide_at (W28.pl.out n_g6) upd_same
        generalize upd H28 g6 (.lst [V.str t0]) = H29 at s_g6 h_g6 ⊢
        have W29 := W28.same s_g6
        have h_w1 := hide_same s_g6 _ _ h_w1
        have h_w2 := hide_same s_g6 _ _ h_w2
        have h_w5 := hide_same s_g6 _ _ h_w5
        clear s_g6 n_g6 W28
        refine ⟨g6, (201 : Int), _, rfl, rfl, hide_sub _ _ h_g6, by decide, by decide, by show 1 * 201 ≤ sizeLine; decide, fun w6 n_w6 => ?_⟩
        have s_w6 := same_new (o := .lst (List.replicate (201 : Int).toNat [V.str t0]).flatten) n_w6
        have h_w6 : hide [ll, p] (upd H29 w6 (.lst (List.replicate (201 : Int).toNat [V.str t0]).flatten)) w6 = some (.lst (vS (List.replicate 201 t0))) := hide_at (W29.pl.out n_w6) (by rw [upd_same]; rw [flat_vS]; rfl)
        generalize upd H29 w6 (.lst (List.replicate (201 : Int).toNat [V.str t0]).flatten) = H30 at s_w6 h_w6 ⊢
        have W30 := W29.same s_w6
        have h_w1 := hide_same s_w6 _ _ h_w1
        have h_w2 := hide_same s_w6 _ _ h_w2
        have h_w5 := hide_same s_w6 _ _ h_w5
        have h_g6 := hide_same s_w6 _ _ h_g6
        clear s_w6 n_w6 W29
        refine ⟨_, rfl, a, _, _, _, rfl, rfl, SqL.of W30.tags_, atI_nat (j := 0) (vS_get e0), t0, _, rfl, rfl, lq, by show 1 ≤ sizeLine; decide, fun w7 n_w7 => ?_⟩
        have s_w7 := same_new (o := .lst [V.str (t0 ++ Str.ofString "q")]) n_w7
        have h_w7 : hide [ll, p] (upd H30 w7 (.lst [V.str (t0 ++ Str.ofString "q")])) w7 = some (.lst [V.str (t0 ++ Str.ofString "q")]) := hide_at (W30.pl.out n_w7) upd_same
        generalize upd H30 w7 (.lst [V.str (t0 ++ Str.ofString "q")]) = H31 at s_w7 h_w7 ⊢
        have W31 := W30.same s_w7
        have h_w1 := hide_same s_w7 _ _ h_w1
        have h_w2 := hide_same s_w7 _ _ h_w2
        have h_w5 := hide_same s_w7 _ _ h_w5
        have h_g6 := hide_same s_w7 _ _ h_g6
        have h_w6 := hide_same s_w7 _ _ h_w6
        clear s_w7 n_w7 W30
        refine ⟨_, rfl, a, _, _, _, rfl, rfl, SqL.of W31.tags_, atI_nat (j := 0) (vS_get e0), by show 1 ≤ sizeLine; decide, fun w9 n_w9 => ?_⟩
        have s_w9 := same_new (o := .lst [V.str t0]) n_w9
        have h_w9 : hide [ll, p] (upd H31 w9 (.lst [V.str t0])) w9 = some (.lst [V.str t0]) := hide_at (W31.pl.out n_w9) upd_same
        generalize upd H31 w9 (.lst [V.str t0]) = H32 at s_w9 h_w9 ⊢
        have W32 := W31.same s_w9
        have h_w1 := hide_same s_w9 _ _ h_w1
        have h_w2 := hide_same s_w9 _ _ h_w2
        have h_w5 := hide_same s_w9 _ _ h_w5
        have h_g6 := hide_same s_w9 _ _ h_g6
        have h_w6 := hide_same s_w9 _ _ h_w6
        have h_w7 := hide_same s_w9 _ _ h_w7
        clear s_w9 n_w9 W31
        refine ⟨by show 1 ≤ sizeLine; decide, fun w8 n_w8 => ?_⟩
        have s_w8 := same_new (o := .lst [V.ref w9]) n_w8
        have h_w8 : hide [ll, p] (upd H32 w8 (.lst [V.ref w9])) w8 = some (.lst [V.ref w9]) := hide_at (W32.pl.out n_w8) upd_same
        generalize upd H32 w8 (.lst [V.ref w9]) = H33 at s_w8 h_w8 ⊢
        have W33 := W32.same s_w8
        have h_w1 := hide_same s_w8 _ _ h_w1
        have h_w2 := hide_same s_w8 _ _ h_w2
        have h_w5 := hide_same s_w8 _ _ h_w5
        have h_g6 := hide_same s_w8 _ _ h_g6
        have h_w6 := hide_same s_w8 _ _ h_w6
        have h_w7 := hide_same s_w8 _ _ h_w7
        have h_w9 := hide_same s_w8 _ _ h_w9
        clear s_w8 n_w8 W32
        refine ⟨by show 8 ≤ sizeLine; decide, fun wo2 n_wo2 => ?_⟩
        have s_wo2 := same_new (o := .lst [V.ref w1, .ref w2, .str t0, .non, .ref w5, .ref w6, .ref w7, .ref w8]) n_wo2
        have h_wo2 : hide [ll, p] (upd H33 wo2 (.lst [V.ref w1, .ref w2, .str t0, .non, .ref w5, .ref w6, .ref w7, .ref w8])) wo2 = some (.lst [V.ref w1, .ref w2, .str t0, .non, .ref w5, .ref w6, .ref w7, .ref w8]) := hide_at (W33.pl.out n_wo2) upd_same
        generalize upd H33 wo2 (.lst [V.ref w1, .ref w2, .str t0, .non, .ref w5, .ref w6, .ref w7, .ref w8]) = H34 at s_wo2 h_wo2 ⊢
        have W34 := W33.same s_wo2
        have h_w1 := hide_same s_wo2 _ _ h_w1
        have h_w2 := hide_same s_wo2 _ _ h_w2
        have h_w5 := hide_same s_wo2 _ _ h_w5
        have h_g6 := hide_same s_wo2 _ _ h_g6
        have h_w6 := hide_same s_wo2 _ _ h_w6
        have h_w7 := hide_same s_wo2 _ _ h_w7
        have h_w9 := hide_same s_wo2 _ _ h_w9
        have h_w8 := hide_same s_wo2 _ _ h_w8
        clear s_wo2 n_wo2 W33
        have ow := wrong_words to nq m0 h_w1 h_w2 h_w5 h_w6 h_w7 h_w9 h_w8
        generalize hwv : [V.ref w1, .ref w2, .str t0, .non, .ref w5, .ref w6, .ref w7, .ref w8] = wv at ow h_wo2 ⊢
        have lwv : wv.length = 8 := by rw [← hwv]; rfl
        clear hwv h_w1 h_w2 h_w5 h_w6 h_w7 h_w9 h_w8 h_g6
        -- some
        refine ⟨_, rfl, ?_⟩
        refine ⟨_, rfl, p, 8, rfl, by decide, by decide, W34.pl.pl, fun r8 H35 hr8 x8 p8 => ?_⟩
        have W35 := W34.draw x8 p8
        have y8 : Same (hide [ll, p] H34) (hide [ll, p] H35) := hide_exc hp2 x8
        have h_wo2 := y8 _ _ h_wo2
        obtain ⟨so, hso, ds, dso, wso⟩ := wrong_pick (r := r8) (by omega) ow
        have dso := dso.same y8
        clear x8 p8 y8 W34 ow
        refine ⟨wo2, _, _, so, rfl, rfl, SqL.of (hide_sub _ _ h_wo2), atI_nat hso, ?_⟩
        clear h_wo2 hso lwv
        obtain ⟨iv, hiv⟩ := wso.due
        refine ⟨_, rfl, _, rfl, ?_⟩
        try dsimp only [tNil, tCons, tC]
        refine told_sub W35.bx ok W35.pl.none (by omega) (dso.same hide_sub) wso.w hiv fun q5 H36 s36 hq5 => ?_
        have W36 := W35.same s36
        refine ⟨_, rfl, _, rfl, a, tags, so, ds, rfl, W36.tags_, (dso.same hide_sub).same s36, wso.w, fun q6 H37 s37 nq6 hq6 => ?_⟩
        have W37 := W36.same s37
        obtain ⟨dd, okd⟩ := sub_ok (tags := tags) (e := ds)
        refine ne_out okd (s37 _ _ hq5) hq6 ?_
        refine ⟨_, rfl, iteF ?_⟩
        clear dso wso hiv hq5 hq6 s36 s37 W35 W36 okd nq6
        -- lots
        refine ⟨_, rfl, _, rfl, _, rfl, by show 1 ≤ sizeLine; decide, fun g1 n_g1 => ?_⟩
        have s_g1 := same_new (o := .lst [V.ref e3]) n_g1
        have h_g1 : hide [ll, p] (upd H37 g1 (.lst [V.ref e3])) g1 = some (.lst [V.ref e3]) := hide_at (W37.pl.out n_g1) upd_same
        generalize upd H37 g1 (.lst [V.ref e3]) = H38 at s_g1 h_g1 ⊢
        have W38 := W37.same s_g1
        clear s_g1 n_g1 W37
        refine ⟨D, g1, _, _, rfl, rfl, (hideT_sub _ _ W38.pr), hide_sub _ _ h_g1, by rw [List.length_map, hes]; show Gs.length + 1 ≤ _; exact sz_le (by omega), fun p2 n_p2 => ?_⟩
        have s_p2 := same_new (o := .lst (es.map V.ref ++ [V.ref e3])) n_p2
        have h_p2 : hide [ll, p] (upd H38 p2 (.lst (es.map V.ref ++ [V.ref e3]))) p2 = some (.lst (es.map V.ref ++ [V.ref e3])) := hide_at (W38.pl.out n_p2) upd_same
        generalize upd H38 p2 (.lst (es.map V.ref ++ [V.ref e3])) = H39 at s_p2 h_p2 ⊢
        have W39 := W38.same s_p2
        have h_g1 := hide_same s_p2 _ _ h_g1
        clear s_p2 n_p2 W38
        refine ⟨by show 1 ≤ sizeLine; decide, fun g2 n_g2 => ?_⟩
        have s_g2 := same_new (o := .lst [V.non]) n_g2
        have h_g2 : hide [ll, p] (upd H39 g2 (.lst [V.non])) g2 = some (.lst [V.non]) := hide_at (W39.pl.out n_g2) upd_same
        generalize upd H39 g2 (.lst [V.non]) = H40 at s_g2 h_g2 ⊢
        have W40 := W39.same s_g2
        have h_g1 := hide_same s_g2 _ _ h_g1
        have h_p2 := hide_same s_g2 _ _ h_p2
        clear s_g2 n_g2 W39
        refine ⟨_, rfl, g2, D, _, _, rfl, rfl, hide_sub _ _ h_g2, (hideT_sub _ _ W40.pr), by rw [List.length_map, hes]; show 1 + Gs.length ≤ _; exact sz_le (by omega), fun p3 n_p3 => ?_⟩
        have s_p3 := same_new (o := .lst ([V.non] ++ es.map V.ref)) n_p3
        have h_p3 : hide [ll, p] (upd H40 p3 (.lst ([V.non] ++ es.map V.ref))) p3 = some (.lst ([V.non] ++ es.map V.ref)) := hide_at (W40.pl.out n_p3) upd_same
        generalize upd H40 p3 (.lst ([V.non] ++ es.map V.ref)) = H41 at s_p3 h_p3 ⊢
        have W41 := W40.same s_p3
        have h_g1 := hide_same s_p3 _ _ h_g1
        have h_p2 := hide_same s_p3 _ _ h_p2
        have h_g2 := hide_same s_p3 _ _ h_g2
        clear s_p3 n_p3 W40
        refine ⟨_, rfl, D, _, rfl, .inl ⟨SqL.of (hideT_sub _ _ W41.pr), fun p4 n_p4 => ?_⟩⟩
        have s_p4 := same_new (o := .tup (es.map V.ref)) n_p4
        have h_p4 : hide [ll, p] (upd H41 p4 (.tup (es.map V.ref))) p4 = some (.tup (es.map V.ref)) := hide_at (W41.pl.out n_p4) upd_same
        generalize upd H41 p4 (.tup (es.map V.ref)) = H42 at s_p4 h_p4 ⊢
        have W42 := W41.same s_p4
        have h_g1 := hide_same s_p4 _ _ h_g1
        have h_p2 := hide_same s_p4 _ _ h_p2
        have h_g2 := hide_same s_p4 _ _ h_g2
        have h_p3 := hide_same s_p4 _ _ h_p3
        clear s_p4 n_p4 W41
        refine ⟨by show 0 ≤ sizeLine; decide, fun p6 n_p6 => ?_⟩
        have s_p6 := same_new (o := .lst []) n_p6
        have h_p6 : hide [ll, p] (upd H42 p6 (.lst [])) p6 = some (.lst []) := hide_at (W42.pl.out n_p6) upd_same
        generalize upd H42 p6 (.lst []) = H43 at s_p6 h_p6 ⊢
        have W43 := W42.same s_p6
        have h_g1 := hide_same s_p6 _ _ h_g1
        have h_p2 := hide_same s_p6 _ _ h_p2
        have h_g2 := hide_same s_p6 _ _ h_g2
        have h_p3 := hide_same s_p6 _ _ h_p3
        have h_p4 := hide_same s_p6 _ _ h_p4
        clear s_p6 n_p6 W42
        refine ⟨_, rfl, D, (7 : Int), _, rfl, rfl, (hideT_sub _ _ W43.pr), by decide, by decide, by rw [List.length_map, hes]; show Gs.length * 7 ≤ _; exact sz_le (by omega), fun p7 n_p7 => ?_⟩
        have s_p7 := same_new (o := .lst (List.replicate (7 : Int).toNat (es.map V.ref)).flatten) n_p7
        have h_p7 : hide [ll, p] (upd H43 p7 (.lst (List.replicate (7 : Int).toNat (es.map V.ref)).flatten)) p7 = some (.lst (List.replicate 7 (es.map V.ref)).flatten) := hide_at (W43.pl.out n_p7) (by rw [upd_same]; rfl)
        generalize upd H43 p7 (.lst (List.replicate (7 : Int).toNat (es.map V.ref)).flatten) = H44 at s_p7 h_p7 ⊢
        have W44 := W43.same s_p7
        have h_g1 := hide_same s_p7 _ _ h_g1
        have h_p2 := hide_same s_p7 _ _ h_p2
        have h_g2 := hide_same s_p7 _ _ h_g2
        have h_p3 := hide_same s_p7 _ _ h_p3
        have h_p4 := hide_same s_p7 _ _ h_p4
        have h_p6 := hide_same s_p7 _ _ h_p6
        clear s_p7 n_p7 W43
        refine ⟨by show 7 ≤ sizeLine; decide, fun lo n_lo => ?_⟩
        have s_lo := same_new (o := .lst [V.ref D, .ref p2, .ref p3, .ref p4, .non, .ref p6, .ref p7]) n_lo
        have h_lo : hide [ll, p] (upd H44 lo (.lst [V.ref D, .ref p2, .ref p3, .ref p4, .non, .ref p6, .ref p7])) lo = some (.lst [V.ref D, .ref p2, .ref p3, .ref p4, .non, .ref p6, .ref p7]) := hide_at (W44.pl.out n_lo) upd_same
        generalize upd H44 lo (.lst [V.ref D, .ref p2, .ref p3, .ref p4, .non, .ref p6, .ref p7]) = H45 at s_lo h_lo ⊢
        have W45 := W44.same s_lo
        have h_g1 := hide_same s_lo _ _ h_g1
        have h_p2 := hide_same s_lo _ _ h_p2
        have h_g2 := hide_same s_lo _ _ h_g2
        have h_p3 := hide_same s_lo _ _ h_p3
        have h_p4 := hide_same s_lo _ _ h_p4
        have h_p6 := hide_same s_lo _ _ h_p6
        have h_p7 := hide_same s_lo _ _ h_p7
        clear s_lo n_lo W44
        -- lot
        refine ⟨_, rfl, _, rfl, by show 1 ≤ sizeLine; decide, fun p8 n_p8 => ?_⟩
        have s_p8 := same_new (o := .lst [V.ref e3]) n_p8
        have h_p8 : hide [ll, p] (upd H45 p8 (.lst [V.ref e3])) p8 = some (.lst [V.ref e3]) := hide_at (W45.pl.out n_p8) upd_same
        generalize upd H45 p8 (.lst [V.ref e3]) = H46 at s_p8 h_p8 ⊢
        have W46 := W45.same s_p8
        have h_g1 := hide_same s_p8 _ _ h_g1
        have h_p2 := hide_same s_p8 _ _ h_p2
        have h_g2 := hide_same s_p8 _ _ h_g2
        have h_p3 := hide_same s_p8 _ _ h_p3
        have h_p4 := hide_same s_p8 _ _ h_p4
        have h_p6 := hide_same s_p8 _ _ h_p6
        have h_p7 := hide_same s_p8 _ _ h_p7
        have h_lo := hide_same s_p8 _ _ h_lo
        clear s_p8 n_p8 W45
        refine ⟨by show 1 ≤ sizeLine; decide, fun g9 n_g9 => ?_⟩
        have s_g9 := same_new (o := .lst [V.ref p8]) n_g9
        have h_g9 : hide [ll, p] (upd H46 g9 (.lst [V.ref p8])) g9 = some (.lst [V.ref p8]) := hide_at (W46.pl.out n_g9) upd_same
        generalize upd H46 g9 (.lst [V.ref p8]) = H47 at s_g9 h_g9 ⊢
        have W47 := W46.same s_g9
        have h_g1 := hide_same s_g9 _ _ h_g1
        have h_p2 := hide_same s_g9 _ _ h_p2
        have h_g2 := hide_same s_g9 _ _ h_g2
        have h_p3 := hide_same s_g9 _ _ h_p3
        have h_p4 := hide_same s_g9 _ _ h_p4
        have h_p6 := hide_same s_g9 _ _ h_p6
        have h_p7 := hide_same s_g9 _ _ h_p7
        have h_lo := hide_same s_g9 _ _ h_lo
        have h_p8 := hide_same s_g9 _ _ h_p8
        clear s_g9 n_g9 W46
        refine ⟨lo, g9, _, _, rfl, rfl, hide_sub _ _ h_lo, hide_sub _ _ h_g9, by show 8 ≤ sizeLine; decide, fun ll2 n_ll2 => ?_⟩
        have s_ll2 := same_new (o := .lst ([V.ref D, .ref p2, .ref p3, .ref p4, .non, .ref p6, .ref p7] ++ [V.ref p8])) n_ll2
        have h_ll2 : hide [ll, p] (upd H47 ll2 (.lst ([V.ref D, .ref p2, .ref p3, .ref p4, .non, .ref p6, .ref p7] ++ [V.ref p8]))) ll2 = some (.lst ([V.ref D, .ref p2, .ref p3, .ref p4, .non, .ref p6, .ref p7] ++ [V.ref p8])) := hide_at (W47.pl.out n_ll2) upd_same
        generalize upd H47 ll2 (.lst ([V.ref D, .ref p2, .ref p3, .ref p4, .non, .ref p6, .ref p7] ++ [V.ref p8])) = H48 at s_ll2 h_ll2 ⊢
        have W48 := W47.same s_ll2
        have h_g1 := hide_same s_ll2 _ _ h_g1
        have h_p2 := hide_same s_ll2 _ _ h_p2
        have h_g2 := hide_same s_ll2 _ _ h_g2
        have h_p3 := hide_same s_ll2 _ _ h_p3
        have h_p4 := hide_same s_ll2 _ _ h_p4
        have h_p6 := hide_same s_ll2 _ _ h_p6
        have h_p7 := hide_same s_ll2 _ _ h_p7
        have h_lo := hide_same s_ll2 _ _ h_lo
        have h_p8 := hide_same s_ll2 _ _ h_p8
        have h_g9 := hide_same s_ll2 _ _ h_g9
        clear s_ll2 n_ll2 W47
        have ol := lots_ok okw (by omega) (hideT_hide _ _ W48.pr) (L2.Paired.mapP W48.ev fun _ _ z => z.same hideT_hide) (W48.str.same hideT_hide) h_p2 h_p3 h_p4 h_p6 h_p7 h_p8
        generalize hlv : [V.ref D, .ref p2, .ref p3, .ref p4, .non, .ref p6, .ref p7] ++ [V.ref p8] = lv at ol h_ll2 ⊢
        have llv : lv.length = 8 := by rw [← hlv]; rfl
        clear hlv h_g1 h_p2 h_g2 h_p3 h_p4 h_p6 h_p7 h_lo h_p8 h_g9
        refine ⟨_, rfl, p, 8, rfl, by decide, by decide, W48.pl.pl, fun r9 H49 hr_r9 x_r9 p_r9 => ?_⟩
        have W49 := W48.draw x_r9 p_r9
        have y_r9 : Same (hide [ll, p] H48) (hide [ll, p] H49) := hide_exc hp2 x_r9
        have h_ll2 := y_r9 _ _ h_ll2
        clear x_r9 p_r9 W48
        obtain ⟨lot, hlot, vlot⟩ := lot_pick (r := r9) (by omega) ol
        have vlot := vlot.same y_r9
        refine ⟨ll2, _, _, lot, rfl, rfl, SqL.of (hide_sub _ _ h_ll2), atI_nat hlot, ?_⟩
        clear hlot y_r9 h_ll2 ol llv
        -- reader
        refine ⟨_, rfl, _, rfl, _, rfl, by show 4 ≤ sizeLine; decide, fun rl n_rl => ?_⟩
        have vlot := vlot.same (hide_same (M := [ll, p]) (same_new (o := .lst [V.ref re, .ref e3, .non, .ref D]) n_rl))
        have s_rl := same_new (o := .lst [V.ref re, .ref e3, .non, .ref D]) n_rl
        have h_rl : hide [ll, p] (upd H49 rl (.lst [V.ref re, .ref e3, .non, .ref D])) rl = some (.lst [V.ref re, .ref e3, .non, .ref D]) := hide_at (W49.pl.out n_rl) upd_same
        generalize upd H49 rl (.lst [V.ref re, .ref e3, .non, .ref D]) = H50 at s_rl h_rl vlot ⊢
        have W50 := W49.same s_rl
        clear s_rl n_rl W49
        have orr := readers_ok okw (hideT_hide _ _ W50.pr) (W50.key.same hideT_hide) (W50.str.same hideT_hide)
        refine ⟨_, rfl, p, 4, rfl, by decide, by decide, W50.pl.pl, fun r10 H51 hr_r10 x_r10 p_r10 => ?_⟩
        have W51 := W50.draw x_r10 p_r10
        have y_r10 : Same (hide [ll, p] H50) (hide [ll, p] H51) := hide_exc hp2 x_r10
        have h_rl := y_r10 _ _ h_rl
        clear x_r10 p_r10 W50
        obtain ⟨rd, hrd, r, vrd⟩ := lot_pick (r := r10) (by show r10 < 4; omega) orr
        have vlot := vlot.same y_r10
        have vrd := vrd.same y_r10
        refine ⟨rl, _, _, rd, rfl, rfl, SqL.of (hide_sub _ _ h_rl), atI_nat hrd, ?_⟩
        clear hrd y_r10 h_rl orr
        obtain ⟨o, dd, okd, lo⟩ := lot_out (r := r) vlot
        refine ⟨_, rfl, _, rfl, _, rfl, ?_⟩
        try dsimp only [tNil, tCons, tC]
        refine told_prog W51.bx (vrd.same hide_sub) (lo.same hide_sub) fun q7 H52 s52 hq7 => ?_
        have W52 := W51.same s52
        refine ⟨_, rfl, _, rfl, _, rfl, ?_⟩
        try dsimp only [tNil, tCons, tC]
        refine due_prog ((lo.same hide_sub).same s52) ((vrd.same hide_sub).same s52) fun q8 H53 s53 hq8 => ?_
        have W53 := W52.same s53
        refine ne_out okd (s53 _ _ hq7) hq8 ?_
        refine ⟨_, rfl, iteF ?_⟩
        clear vlot vrd okd lo hq7 hq8 s52 s53 W51 W52
        -- as ahead
        refine ⟨_, rfl, _, rfl, [ll, p], m, ll, tags, Gs, Gk, ws, rfl, W53.bx, ok, (fun wd h => ⟨(wo wd h).1, by have := (wo wd h).2; omega⟩), by omega, fun H54 s54 => ?_⟩
        have W54 := W53.same s54
        refine ⟨_, rfl, rfl, _, rfl, ?_⟩
        rw [decide_eq_true rfl]
        refine iteF ?_
        obtain ⟨dxm, plm, kem, tsm, hom, _, _⟩ := boxObj W54.bx
        refine ⟨_, rfl, m, dxm, _, rfl, hom, [ll, p], m, ll, tags, Gs, Gk, ws, rfl, W54.bx, ws.length, rfl, by show ws.length < sizeLine; exact sz_lt (by omega), ?_⟩
        refine ⟨_, rfl, rfl, _, rfl, ?_⟩
        rw [decide_eq_true rfl]
        refine iteF ?_
        exact ⟨_, _, _, _, _, _, _, _, _, _, _, _, _, rfl, W54⟩
      clear W17 v1 v4 v10 v11 v12 v13 v14 v15 v16 v17 v18 v19 v20
      rintro σ H18 ⟨v1, v4, v10, v11, v12, v13, v14, v15, v16, v17, v18, v19, v20, rfl, W18⟩
      refine ⟨_, rfl, a, tags, rfl, W18.tags_, to, W18.pl.ext.2 tb, fun H19 x19 => ?_⟩
      refine ⟨_, rfl, iteF ?_⟩
      exact ⟨_, _, _, _, _, _, _, _, _, _, _, _, _, _, _, _, _, _, _, _, rfl, W18.pl.ext.trans x19⟩
    · rintro σ H2 ⟨v1, v2, v3, v4, v5, v6, v7, v8, v9, v10, v11, v12, v13, v14, v15, v16, v17, v18, v19, v20, rfl, e1⟩
      exact q H2
end
end Law
end

section
set_option Elab.async false
set_option linter.all false
set_option maxRecDepth 100000
set_option maxHeartbeats 0
namespace Law
open PySem PySem.Spec PyProof.Rows L2 LamX QB QM
theorem law_at (w : World) (mg : Str → Option Value) (fa : Addr) (h : Heap) (Y : hk.says w h) (G : h.Ns mainGlobals mg) (hmg : mg ("law" : Str) = some (.ref fa)) :
    ∃ K : PySem.W.Frag, K.In h ∧ QT.LawG PySem.Challenge.rw_subjecttags_k51_mailboxes_refused w K CX0 63 "script" mg fa h := by
  obtain ⟨K, KX, c⟩ := Y
  obtain ⟨X, e1, e2, e3⟩ := tx_mk KX G c.t.d c.more
  have e4 := hmg.symm.trans X.d_law.mg
  have e5 : fa = X.d_law.a := by
    injection e4 with e4
    injection e4
  subst e5
  have hm : (((("without_needless_ways" : Str), (none : Option Str)) : He.Defn)) ∈ tfs := List.mem_singleton.mpr rfl
  have h1 := c.hd _ hm
  have h2 := c.out _ hm
  have h3 := c.empty _ hm
  have c1 : (He.cT K (("without_needless_ways" : Str), (none : Option Str))) = (X.lam_c, X.lam_P) := by rw [e1, e2]; rfl
  rw [c1] at h1 h2 h3
  have hb : ∀ (s : Shared) (u : Value), BindsTo s X.d_law.fd ⟨[u], []⟩ [("script", u)] := by
    obtain ⟨oc, od, kV, doc, pm, an, cdv, ct, osl, hf, _, _⟩ := X.d_law.F.ex
    intro s u
    rw [hf]
    exact .of_eq rfl
  refine ⟨K, KX, X.d_law.fd, [(X.lam_c, X.lam_P)], spLaw K (Tof X), ?_, ?_, ?_, hb, ?_, ?_⟩
  · intro p hp
    rw [List.mem_singleton.mp hp]
    exact h3
  · intro p hp
    rw [List.mem_singleton.mp hp]
    exact h2
  · intro p hp
    rw [List.mem_singleton.mp hp]
    exact PySem.W.codeHd_of_K KX h1
  · intro H a ns hl hT hS
    refine ⟨a, ns, rfl, hS, fun q hq => ?_, fun _ => rfl⟩
    rw [List.mem_singleton.mp hq]
    exact ⟨#[], hT _ (List.mem_singleton.mpr rfl), by simp [TriplesOk], fun pos cv h => by cases h⟩
  · intro base _ _ hB TB
    exact ok_law X (TB _ (List.mem_singleton.mpr rfl)) hB ⟨rfl, by decide, by decide⟩
end Law
open PySem PySem.W PySem.Calls PyProof.Rows
theorem k51_end : PySem.Challenge.rw_subjecttags_k51_mailboxes_refused.Holds := by
  w_on; o_law
  refine HandSHeadRun.head_any (r := Law.R) (q := view Law.R.prog [66]) (H := Law.hk) (ob := Law.ob) (M := 8000) (loose := Law.names) (d := HandSHeadRun.topDef Law.R.prog 66) (kwd := []) Law.ob_eq
    Law.hd1 Law.hd2 Law.run Law.hd3 Law.hd4 Law.hd5 Law.hd6 Law.hd7 Law.hd8 Law.hd9 ?hw ?hc
  case hw => w_witness2
  case hc =>
    refine QT.walk_ofG (l := PySem.Challenge.rw_subjecttags_k51_mailboxes_refused) (n := 63) (x := "script") (CX := fun _ => L2.CX0) rfl (by decide) Law.hd11 Law.hd12 ?F (fun _ _ _ _ _ z => z)
    intro w mg fa h Y G hmg0
    rw [Law.hd10] at hmg0
    exact Law.law_at w mg fa h Y G hmg0
end

theorem PySem.Challenge.cw_subjecttags_k51_mailboxes_refused_holds : PySem.Challenge.rw_subjecttags_k51_mailboxes_refused.Holds := by
  exact k51_end
