import PyProof.Rows.All
import Wide.All
import OpenK.AllK
import Wide.FinOn
import HandS.ForMost
import KE.KeyNested
import HandS.TupLen
import HandS.Lambda
import HandS.Nested
import HandS.Conv
import KE.KLam
import KE.SortKeyHeap
import KE.SortData
import HandS.Walk
import HandS.IsInst
import HandS.Sort
import HandS.OwnEq
import HandS.Exc
import HandS.ExcInit
import HandS.ExcIs
import HandS.ExcField
import HandS.ExcValue
import HandS.SuiteRaise
import KE.KExcIs
import KE.KStateDown
import Lean
import HandS.Base
import HandS.Call
import HandS.Ends
import HandS.More
import HandS.Words
import HandS.WordsExc
import HandS.Defaults
import HandS.Head0
import HandS.Head1
import HandS.Head2
import HandS.HeadEnd
import HandS.HeadHook1
import HandS.HeadHook2
import HandS.HeadHook3
import HandS.HeadHook4
import HandS.HeadWalk
import PyProof.ReprRoads
import PyProof.ReprLen
import HandS.List
import HandS.ExcOwn
import PyProof.NeKinds
import PyProof.StrOps2
import HandS.EndTab
import HandS.Style
import HandS.Wide
import HandS.Text
import PyProof.ListStr
import HandS.TupMul
import PySem.Challenge.RW_subjecttags_k11_makers_refused
set_option Elab.async false
section
set_option Elab.async false
set_option linter.all false
set_option maxRecDepth 100000
/-! dicts whose keys are tuples of any depth (None, ints, texts, tuples): get, in, not in, put, made empty -/
namespace QD
open PySem PySem.Spec PyProof.Rows L2

mutual
inductive NV (H : Hp) : NestedKey → V → Prop
  | none : NV H .none .non
  | num (i : Int) : NV H (.num i) (.int i)
  | text (x : Str) : NV H (.text x) (.str x)
  | tup {a : Addr} {vs : List V} {ks : List NestedKey} : H a = some (.tup vs) → NVs H ks vs → NV H (.tup ks) (.ref a)
inductive NVs (H : Hp) : List NestedKey → List V → Prop
  | nil : NVs H [] []
  | cons {k : NestedKey} {v : V} {ks : List NestedKey} {vs : List V} : NV H k v → NVs H ks vs → NVs H (k :: ks) (v :: vs)
end
mutual
theorem NV.to {H H' : Hp} (t : ∀ b xs, H b = some (.tup xs) → H' b = some (.tup xs)) : ∀ (k : NestedKey) (v : V), NV H k v → NV H' k v
  | .none, _, h => by cases h; exact .none
  | .num _, _, h => by cases h; exact .num _
  | .text _, _, h => by cases h; exact .text _
  | .tup ks, _, h => by
    cases h with
    | tup h1 h2 => exact .tup (t _ _ h1) (NVs.to t ks _ h2)
theorem NVs.to {H H' : Hp} (t : ∀ b xs, H b = some (.tup xs) → H' b = some (.tup xs)) : ∀ (ks : List NestedKey) (vs : List V), NVs H ks vs → NVs H' ks vs
  | [], _, h => by cases h; exact .nil
  | k :: ks, _, h => by
    cases h with
    | cons h1 h2 => exact .cons (NV.to t k _ h1) (NVs.to t ks _ h2)
end
section
variable {P : Program} {w : World} {H : Hp} {h : Heap}
mutual
theorem NV.is (ok : HOk P w H h) : ∀ (k : NestedKey) (v : V) (u : Value), NV H k v → RelV v u → NestedIs h k u
  | .none, _, u, n, r => by
    cases n
    have r : u = Value.none := r
    subst r
    exact .none
  | .num _, _, u, n, r => by
    cases n
    obtain ⟨t, r⟩ := r
    subst r
    exact .int _ _
  | .text _, _, u, n, r => by
    cases n
    obtain ⟨t, r⟩ := r
    subst r
    exact .text _ _
  | .tup ks, _, u, n, r => by
    cases n with
    | @tup a vs _ h1 h2 =>
      obtain rfl : u = Value.ref a := r
      obtain ⟨_, its, rv, o, e1, e2, n, e3⟩ := (show ObjOk P w H h a (.tup vs) from ok a _ h1)
      exact .tup e1 e2 e3 (by simpa using NVs.is ok ks vs its h2 rv)
theorem NVs.is (ok : HOk P w H h) : ∀ (ks : List NestedKey) (vs : List V) (us : List Value), NVs H ks vs → Vals vs us → NestedAll h ks us
  | [], _, us, n, r => by
    cases n
    cases r
    exact .nil
  | k :: ks, _, us, n, r => by
    cases n with
    | cons n1 n2 =>
      cases r with
      | cons r1 r2 => exact .cons (NV.is ok k _ _ n1 r1) (NVs.is ok ks _ _ n2 r2)
end
end

/-- what the dict's own object says -/
def Dφ (P : Program) (w : World) (a : Addr) (xs : List (NestedKey × Addr × Value)) : Heap → Prop := fun h =>
  ∃ o es ep, h.get? a = some o ∧ o.ExactDict ∧ o.data = .dict es ep ∧ es.toList = xs.map (entryOfKey (nestedKind P w)) ∧ (xs.map (·.1)).Nodup ∧ xs.length ≤ sizeLine
abbrev Ent (H : Hp) : NestedKey × V → NestedKey × Addr × Value → Prop := fun p q => p.1 = q.1 ∧ NV H p.1 (.ref q.2.1) ∧ p.1.depth ≤ 8 ∧ RelV p.2 q.2.2
/-- at a stands a dict of these keys and values, in their order -/
def DN (P : Program) (w : World) (H : Hp) (a : Addr) (kvs : List (NestedKey × V)) : Prop :=
  (a == sysModules) = false ∧ ∃ xs, H a = some (.ext (Dφ P w a xs)) ∧ Paired (Ent H) kvs xs

theorem DN.to {P : Program} {w : World} {H H' : Hp} {a : Addr} {kvs : List (NestedKey × V)} (d : DN P w H a kvs) (t : ∀ b xs, H b = some (.tup xs) → H' b = some (.tup xs)) (e : H' a = H a) : DN P w H' a kvs := by
  obtain ⟨n, xs, h1, h2⟩ := d
  exact ⟨n, xs, by rw [e]; exact h1, Paired.mapP h2 fun p q z => ⟨z.1, z.2.1.to t, z.2.2⟩⟩

section
variable {H : Hp}
theorem ent_val {kvs : List (NestedKey × V)} {xs : List (NestedKey × Addr × Value)} (r : Paired (Ent H) kvs xs) (k : NestedKey) : RelO (valV kvs k) ((atKey xs k).map (·.2)) := by
  induction r with
  | nil => exact True.intro
  | @cons p q ps qs h t ih =>
    obtain ⟨h1, _, _, h2⟩ := h
    by_cases e : p.1 = k
    · have e' : q.1 = k := h1.symm.trans e
      have b : atKey (q :: qs) k = some q.2 := by simp [atKey, List.find?_cons, e']
      rw [valV_pos e, b]
      exact h2
    · have e' : ¬ q.1 = k := fun z => e (h1.trans z)
      have b : atKey (q :: qs) k = atKey qs k := by simp [atKey, List.find?_cons, e']
      rw [valV_neg e, b]
      exact ih
theorem ent_repl {kvs : List (NestedKey × V)} {xs : List (NestedKey × Addr × Value)} (r : Paired (Ent H) kvs xs) (k : NestedKey) {y : V} {u : Value} (ry : RelV y u) :
    Paired (Ent H) (kvs.map fun kv => if kv.1 = k then (kv.1, y) else kv) (xs.map (putAt k u)) := by
  induction r with
  | nil => exact .nil
  | @cons p q ps qs h t ih =>
    rw [List.map_cons, List.map_cons]
    refine .cons ?_ ih
    obtain ⟨h1, h2, h3, h4⟩ := h
    unfold putAt
    by_cases e : p.1 = k
    · rw [if_pos e, if_pos (h1.symm.trans e)]
      exact ⟨h1, h2, h3, ry⟩
    · rw [if_neg e, if_neg (fun z => e (h1.trans z))]
      exact ⟨h1, h2, h3, h4⟩
theorem ent_put {kvs : List (NestedKey × V)} {xs : List (NestedKey × Addr × Value)} (r : Paired (Ent H) kvs xs) (k : NestedKey) {b : Addr} {y : V} {u : Value} (hb : NV H k (.ref b)) (hd : k.depth ≤ 8) (ry : RelV y u) :
    Paired (Ent H) (putK kvs k y) (storedH xs k b u) := by
  have e : (kvs.any fun kv => decide (kv.1 = k)) = (atKey xs k).isSome := by
    rw [valV_any, (ent_val r k).isSome_eq, Option.isSome_map]
  unfold putK storedH
  rw [e]
  by_cases q : (atKey xs k).isSome = true
  · rw [if_pos q, if_pos q]
    exact ent_repl r k ry
  · rw [if_neg q, if_neg q]
    exact Paired.snoc r ⟨rfl, hb, hd, ry⟩
end

section
variable {P : Program} {w : World} {H : Hp} {h : Heap} {a : Addr} {kvs : List (NestedKey × V)}
theorem ent_is (ok : HOk P w H h) {xs : List (NestedKey × Addr × Value)} (r : Paired (Ent H) kvs xs) : ∀ x ∈ xs, (nestedKind P w).is h x.1 x.2.1 := by
  induction r with
  | nil => intro x hx; exact nomatch hx
  | @cons p q ps qs hq t ih =>
    intro x hx
    rcases List.mem_cons.mp hx with e | hx
    · subst e
      obtain ⟨e1, e2, e3, _⟩ := hq
      rw [e1] at e2 e3
      exact ⟨NV.is ok _ _ _ e2 rfl, e3⟩
    · exact ih x hx
theorem dn_of (ok : HOk P w H h) {xs : List (NestedKey × Addr × Value)} (e : H a = some (.ext (Dφ P w a xs))) (r : Paired (Ent H) kvs xs) : h.DictOfH (nestedKind P w) a xs ∧ xs.length ≤ sizeLine := by
  obtain ⟨⟨o, es, ep, h1, h2, h3, h4, h5, h6⟩, _, _⟩ := ok a _ e
  exact ⟨⟨o, es, ep, h1, h2, h3, h4, ent_is ok r, h5⟩, h6⟩
theorem key_is (ok : HOk P w H h) {k : NestedKey} {b : Addr} (n : NV H k (.ref b)) (hd : k.depth ≤ 8) : (nestedKind P w).is h k b := ⟨NV.is ok _ _ _ n rfl, hd⟩
theorem dn_ok {h' : Heap} {H' : Hp} {xs : List (NestedKey × Addr × Value)} (d : h'.DictOfH (nestedKind P w) a xs) (z : xs.length ≤ sizeLine) : ObjOk P w H' h' a (.ext (Dφ P w a xs)) := by
  obtain ⟨o, es, ep, h1, h2, h3, h4, _, h5⟩ := d
  exact ⟨⟨o, es, ep, h1, h2, h3, h4, h5, z⟩, ⟨o, h1⟩, fun g1 g2 ⟨o, es, ep, k1, k2⟩ st => ⟨o, es, ep, st _ k1, k2⟩⟩
end

section
variable {X : Cx} {o i value : Expr} {td ty tv : TE} {pos pos' : Pos}
/-- {} -/
def tNewN (X : Cx) : TE := fun _ H Q => ∀ p H', H p = none → (∀ b, b ≠ p → H' b = H b) → DN X.prog X.w H' p [] → H' p ≠ none → Q (.ref p) H'
theorem pe_newN : PE X (.Dict [] [] pos) (tNewN X) := ⟨fun pins s σ H Q I h => by
  have nm : (s.heap.objs.size == sysModules) = false := by
    have q := I.big
    refine beq_eq_false_iff_ne.mpr fun e => ?_
    rw [show s.heap.objs.size = sysModules from e] at q
    exact Nat.lt_irrefl _ q
  have new : ObjOk X.prog X.w (upd H s.heap.objs.size (.ext (Dφ X.prog X.w s.heap.objs.size []))) (s.heap.push { cls := .type "dict", data := .dict #[] }) s.heap.objs.size (.ext (Dφ X.prog X.w s.heap.objs.size [])) :=
    dn_ok (Heap.DictOfH.new s.heap) (Nat.zero_le _)
  exact wpAny_Dict_empty ⟨.ref s.heap.objs.size, _, I.laid (a := s.heap.objs.size) (t' := s.toks) (fun _ _ q => Heap.get?_push_of_some _ q) (Nat.le_refl _) new, rfl,
    h _ _ (I.hok.fresh (Nat.le_refl _)) (fun b hb => upd_ne hb) ⟨nm, [], upd_same, .nil⟩ (by rw [upd_same]; exact fun z => nomatch z)⟩⟩

/-- d[k], there; k in d; k not in d -/
def tGetN (X : Cx) (td ty : TE) : TE := fun σ H Q => td σ H fun x H1 => ty σ H1 fun y H2 => ∃ a b kvs k v, x = .ref a ∧ y = .ref b ∧ DN X.prog X.w H2 a kvs ∧ NV H2 k (.ref b) ∧ k.depth ≤ 8 ∧ valV kvs k = some v ∧ Q v H2
def tInN (X : Cx) (neg : Bool) (ty td : TE) : TE := fun σ H Q => ty σ H fun y H1 => td σ H1 fun x H2 => ∃ a b kvs k, x = .ref a ∧ y = .ref b ∧ DN X.prog X.w H2 a kvs ∧ NV H2 k (.ref b) ∧ k.depth ≤ 8 ∧ Q (.bl (if neg then !(valV kvs k).isSome else (valV kvs k).isSome)) H2
theorem room_in1 {A : Around} {P : Program} {w : World} (hu : A.units + 64 < cLine) : (nestedKind P w).room A.in1 := by
  show A.units + 1 + 8 < cLine
  omega
theorem pe_getN (hu : X.A.units + 64 < cLine) (ho : PE X o td) (hi : PE X i ty) (hs : NoSl i) : PE X (.Subscript o i pos) (tGetN X td ty) := by
  refine ⟨fun pins s σ H Q I h => ?_⟩
  refine subD_of PySem.F.slot_dict_getitem.lookup hs (thn (ho.run pins s σ H _ I h) fun u s1 ⟨x, H1, I1, rx, q1⟩ => thn (hi.run pins s1 σ H1 _ I1 q1) fun iv s2 ⟨y, H2, I2, ry, a, b, kvs, k, v, ex, ey, ⟨nm, xs, d1, d2⟩, n, kd, hv, q2⟩ => ?_)
  subst ex ey
  obtain rfl : u = Value.ref a := rx
  obtain rfl : iv = Value.ref b := ry
  obtain ⟨dd, z⟩ := dn_of I2.hok d1 d2
  refine ⟨dd.typeIs, ?_⟩
  obtain ⟨w', hw, rw'⟩ := RelO.some_of (v := v) (o := (atKey xs k).map (·.2)) (by rw [← hv]; exact ent_val d2 k)
  obtain ⟨p, hp, hp2⟩ := Option.map_eq_some_iff.mp hw
  refine wpAny_getItem_heap (room_in1 hu) (key_is I2.hok n kd) dd hp ?_
  rw [hp2]
  exact ⟨v, H2, I2.tok _, rw', q2⟩
theorem pc_inN (hu : X.A.units + 64 < cLine) (hi : PE X i ty) (ho : PE X o td) : PC X .In i o (tInN X false ty td) := by
  refine ⟨fun pins s σ H Q I h => ?_⟩
  refine thn (hi.run pins s σ H _ I h) fun iv s1 ⟨y, H1, I1, ry, q1⟩ => thn (ho.run pins s1 σ H1 _ I1 q1) fun u s2 ⟨x, H2, I2, rx, a, b, kvs, k, ex, ey, ⟨nm, xs, d1, d2⟩, n, kd, q2⟩ => ?_
  subst ex ey
  obtain rfl : u = Value.ref a := rx
  obtain rfl : iv = Value.ref b := ry
  obtain ⟨dd, z⟩ := dn_of I2.hok d1 d2
  refine wpAny_in_heap (room_in1 hu) (key_is I2.hok n kd) nm dd ⟨.bl (atKey xs k).isSome, H2, I2.tok _, rfl, ?_⟩
  have e := (ent_val d2 k).isSome_eq
  rw [Option.isSome_map] at e
  rw [← e]
  exact q2
theorem pc_notinN (hu : X.A.units + 64 < cLine) (hi : PE X i ty) (ho : PE X o td) : PC X .NotIn i o (tInN X true ty td) := by
  refine ⟨fun pins s σ H Q I h => ?_⟩
  refine thn (hi.run pins s σ H _ I h) fun iv s1 ⟨y, H1, I1, ry, q1⟩ => thn (ho.run pins s1 σ H1 _ I1 q1) fun u s2 ⟨x, H2, I2, rx, a, b, kvs, k, ex, ey, ⟨nm, xs, d1, d2⟩, n, kd, q2⟩ => ?_
  subst ex ey
  obtain rfl : u = Value.ref a := rx
  obtain rfl : iv = Value.ref b := ry
  obtain ⟨dd, z⟩ := dn_of I2.hok d1 d2
  refine wpAny_notIn_heap (room_in1 hu) (key_is I2.hok n kd) nm dd ⟨.bl (!(atKey xs k).isSome), H2, I2.tok _, rfl, ?_⟩
  have e := (ent_val d2 k).isSome_eq
  rw [Option.isSome_map] at e
  rw [← e]
  exact q2
/-- d[k] = v -/
def sPutN (X : Cx) (td ty tv : TE) : TS := fun D σ H => tv σ H fun v H1 => td σ H1 fun x H2 => ty σ H2 fun y H3 => ∃ a b kvs k, x = .ref a ∧ y = .ref b ∧ DN X.prog X.w H3 a kvs ∧ NV H3 k (.ref b) ∧ k.depth ≤ 8 ∧ kvs.length < sizeLine ∧
  ∀ H4, (∀ c, c ≠ a → H4 c = H3 c) → DN X.prog X.w H4 a (putK kvs k v) → H4 a ≠ none → D.nx σ H4
theorem ps_putN (hu : X.A.units + 64 < cLine) (ho : PE X o td) (hi : PE X i ty) (hv : PE X value tv) (hs : swapsWith value (some (.Subscript o i pos')) pos.line X.env = pure false) :
    PS X (.Assign [.Subscript o i pos'] value pos) (sPutN X td ty tv) := by
  refine ⟨fun pins s σ H D I h => ?_⟩
  refine wpAny_Assign_Subscript (thn (hv.run pins s σ H _ I h) fun r s1 ⟨v, H1, I1, rv, q1⟩ => thn (ho.run pins s1 σ H1 _ I1 q1) fun u s2 ⟨x, H2, I2, rx, q2⟩ => thn (hi.run pins s2 σ H2 _ I2 q2) fun iv s3 ⟨y, H3, I3, ry, a, b, kvs, k, ex, ey, ⟨nm, xs, d1, d2⟩, n, kd, hl, q3⟩ => ?_) hs
  subst ex ey
  obtain rfl : u = Value.ref a := rx
  obtain rfl : iv = Value.ref b := ry
  obtain ⟨dd, z⟩ := dn_of I3.hok d1 d2
  refine wpAny_setItem_heap (hsz := z) (room_in1 hu) (key_is I3.hok n kd) dd fun h' dd' hs => ?_
  have ep := ent_put d2 k n kd (y := v) (u := r) rv
  have hl' : (storedH xs k b r).length ≤ sizeLine := by
    rw [← Paired.length ep]
    have := length_putK kvs k v
    omega
  have tk : ∀ c ys, H3 c = some (.tup ys) → upd H3 a (.ext (Dφ X.prog X.w a (storedH xs k b r))) c = some (.tup ys) := fun c ys e => by
    rw [upd_ne (ne_of e d1 (fun z => nomatch z))]
    exact e
  have he : ∃ q, h'.get? a = some q := let ⟨q, _, _, hq, _⟩ := dd'; ⟨q, hq⟩
  refine ⟨σ, _, d_write (ob := .ext (Dφ X.prog X.w a (storedH xs k b r))) I3 (by rw [d1]; exact True.intro) hs he (dn_ok dd' hl'), ?_⟩
  exact q3 _ (fun c hc => upd_ne hc) ⟨nm, _, upd_same, Paired.mapP ep fun p q e => ⟨e.1, e.2.1.to tk, e.2.2⟩⟩ (by rw [upd_same]; exact fun z => nomatch z)
/-- len(d) -/
theorem call_lenN : CallR X (.builtin "len") (fun xs H Q => ∃ a kvs, xs = [.ref a] ∧ DN X.prog X.w H a kvs ∧ Q (.int (kvs.length : Int)) H) := by
  intro pins s σ H xs us Q I r h
  obtain ⟨a, kvs, rfl, ⟨nm, ys, d1, d2⟩, q⟩ := h
  obtain ⟨u, rfl, ru⟩ := vals1 r
  obtain rfl : u = Value.ref a := ru
  obtain ⟨dd, z⟩ := dn_of I.hok d1 d2
  have hl : kvs.length = ys.length := Paired.length d2
  have hn := line63
  refine call_len_dictH nm dd (by omega) ⟨.int (kvs.length : Int), H, I.tok _, ⟨s.toks + 1, ?_⟩, q⟩
  rw [hl]
end

/-! ### keys numbered as they come -/
section
variable {κ : Type} [DecidableEq κ]
def dictFrom : Nat → List κ → List (κ × V)
  | _, [] => []
  | n, k :: r => (k, .int (n : Int)) :: dictFrom (n + 1) r
theorem dictFrom_len : ∀ (l : List κ) (n : Nat), (dictFrom n l).length = l.length
  | [], _ => rfl
  | _ :: l, n => congrArg (· + 1) (dictFrom_len l (n + 1))
theorem dictFrom_snoc (k : κ) : ∀ (l : List κ) (n : Nat), dictFrom n (l ++ [k]) = dictFrom n l ++ [(k, .int ((n + l.length : Nat) : Int))]
  | [], n => rfl
  | x :: l, n => by
    show (x, V.int (n : Int)) :: dictFrom (n + 1) (l ++ [k]) = (x, V.int (n : Int)) :: (dictFrom (n + 1) l ++ [(k, .int ((n + (x :: l).length : Nat) : Int))])
    rw [dictFrom_snoc k l (n + 1), List.length_cons, Nat.add_right_comm n 1, Nat.add_assoc]
theorem valV_dictFrom (k : κ) : ∀ (l : List κ) (n : Nat), valV (dictFrom n l) k = if k ∈ l then some (.int ((n + l.idxOf k : Nat) : Int)) else none
  | [], _ => rfl
  | x :: l, n => by
    show valV ((x, V.int (n : Int)) :: dictFrom (n + 1) l) k = _
    by_cases e : x = k
    · subst e
      rw [valV_pos rfl, if_pos List.mem_cons_self]
      simp
    · rw [valV_neg e, valV_dictFrom k l (n + 1)]
      by_cases h : k ∈ l
      · rw [if_pos h, if_pos (List.mem_cons_of_mem _ h), List.idxOf_cons]
        simp only [beq_eq_false_iff_ne.mpr e, cond_false]
        congr 2
        omega
      · rw [if_neg h, if_neg (by simp [h, Ne.symm e])]
theorem putK_dictFrom {k : κ} {l : List κ} {n : Nat} (h : k ∉ l) : putK (dictFrom n l) k (.int ((n + l.length : Nat) : Int)) = dictFrom n (l ++ [k]) := by
  unfold putK
  rw [valV_any, valV_dictFrom, if_neg h, dictFrom_snoc]
  rfl
/-- the different ones, as they come -/
def addSeen (seen : List κ) (m : κ) : List κ := if m ∈ seen then seen else seen ++ [m]
def seenOf (ms : List κ) : List κ := ms.foldl addSeen []
theorem seenOf_snoc (ms : List κ) (m : κ) : seenOf (ms ++ [m]) = addSeen (seenOf ms) m := by
  unfold seenOf
  rw [List.foldl_append]
  rfl
theorem addSeen_mem (seen : List κ) (m : κ) : m ∈ addSeen seen m := by
  unfold addSeen
  split
  · assumption
  · simp
theorem addSeen_pre (seen : List κ) (m : κ) : ∃ t, addSeen seen m = seen ++ t := by
  unfold addSeen
  split
  · exact ⟨[], by simp⟩
  · exact ⟨[m], rfl⟩
theorem foldl_pre (ms : List κ) : ∀ seen : List κ, ∃ t, ms.foldl addSeen seen = seen ++ t := by
  induction ms with
  | nil => exact fun seen => ⟨[], by simp⟩
  | cons m ms ih =>
    intro seen
    obtain ⟨t1, e1⟩ := addSeen_pre seen m
    obtain ⟨t2, e2⟩ := ih (addSeen seen m)
    exact ⟨t1 ++ t2, by rw [List.foldl_cons, e2, e1, List.append_assoc]⟩
theorem mem_seenOf (ms : List κ) : ∀ m, m ∈ seenOf ms ↔ m ∈ ms := by
  have all : ∀ (ms seen : List κ) (m : κ), m ∈ ms.foldl addSeen seen ↔ m ∈ seen ∨ m ∈ ms := by
    intro ms
    induction ms with
    | nil => intro seen m; simp
    | cons x ms ih =>
      intro seen m
      rw [List.foldl_cons, ih]
      unfold addSeen
      by_cases h : x ∈ seen
      · rw [if_pos h, List.mem_cons]
        constructor
        · rintro (h1 | h1)
          · exact .inl h1
          · exact .inr (.inr h1)
        · rintro (h1 | rfl | h1)
          · exact .inl h1
          · exact .inl h
          · exact .inr h1
      · rw [if_neg h, List.mem_append, List.mem_singleton, List.mem_cons, or_assoc]
  intro m
  unfold seenOf
  rw [all]
  simp
theorem seenOf_nodup (ms : List κ) : (seenOf ms).Nodup := by
  have all : ∀ (ms seen : List κ), seen.Nodup → (ms.foldl addSeen seen).Nodup := by
    intro ms
    induction ms with
    | nil => exact fun _ h => h
    | cons x ms ih =>
      intro seen h
      refine ih _ ?_
      unfold addSeen
      split
      · exact h
      · rename_i hx
        rw [List.nodup_append]
        exact ⟨h, by simp, fun a ha b hb => by rw [List.mem_singleton.mp hb]; exact fun e => hx (e ▸ ha)⟩
  exact all ms [] List.nodup_nil
theorem idxOf_pre {seen t : List κ} {m : κ} (h : m ∈ seen) : (seen ++ t).idxOf m = seen.idxOf m := by
  rw [List.idxOf_append, if_pos h]
def numb (ms : List κ) : List Nat := ms.map fun m => (seenOf ms).idxOf m
theorem numb_len (ms : List κ) : (numb ms).length = ms.length := List.length_map _
/-- one more -/
theorem numb_snoc (ms : List κ) (m : κ) : numb (ms ++ [m]) = numb ms ++ [(addSeen (seenOf ms) m).idxOf m] := by
  unfold numb
  rw [List.map_append, seenOf_snoc]
  refine congrArg (· ++ _) (List.map_congr_left fun x hx => ?_)
  obtain ⟨t, e⟩ := addSeen_pre (seenOf ms) m
  rw [e, idxOf_pre ((mem_seenOf ms x).mpr hx)]
theorem seenOf_len (ms : List κ) : (seenOf ms).length ≤ ms.length := by
  have all : ∀ (ms seen : List κ), (ms.foldl addSeen seen).length ≤ seen.length + ms.length := by
    intro ms
    induction ms with
    | nil => intro _; exact Nat.le_refl _
    | cons x ms ih =>
      intro seen
      have h := ih (addSeen seen x)
      have h2 : (addSeen seen x).length ≤ seen.length + 1 := by
        unfold addSeen
        split
        · omega
        · simp
      rw [List.foldl_cons, List.length_cons]
      omega
  have := all ms []
  rw [List.length_nil, Nat.zero_add] at this
  exact this
theorem idxOf_map_inj {α : Type} [DecidableEq α] (f : α → κ) (hf : ∀ a b, f a = f b → a = b) (a : α) : ∀ l : List α, (l.map f).idxOf (f a) = l.idxOf a
  | [] => rfl
  | x :: l => by
    rw [List.map_cons, List.idxOf_cons, List.idxOf_cons, idxOf_map_inj f hf a l]
    by_cases e : x = a
    · rw [e, beq_self_eq_true, beq_self_eq_true]
    · rw [beq_eq_false_iff_ne.mpr e, beq_eq_false_iff_ne.mpr fun z => e (hf _ _ z)]
end
end QD
end

section
set_option Elab.async false
set_option linter.all false
set_option maxRecDepth 100000
set_option maxHeartbeats 2000000
/-! sorted(range(n), key=lambda number: -len(rows[number][0])) -/
namespace QL
open PySem PySem.Spec PyProof.Rows L2

abbrev lamArgs (x : Str) (p : Pos) : Arguments := { posonlyargs := [], args := [{ arg := x, annotation := none, pos := p }], vararg := none, kwonlyargs := [], kw_defaults := [], kwarg := none, defaults := [] }
abbrev lamBody (x rows : Str) (p1 p2 p3 p4 p5 p6 p7 p8 : Pos) : Expr :=
  .UnaryOp .USub (.Call (.Name "len" p1) [.Subscript (.Subscript (.Name rows p2) (.Name x p3) p4) (.Constant (.int 0) 0 p5) p6] [] p7) p8
abbrev lamScope (x rows : Str) : Scope := { kind := .function, names := [(x, .local), (rows, .free), ("len", .globalImplicit)], isGenerator := false, isCoroutine := false, more := [] }

theorem ls_x : (lamScope ("number" : Str) ("standings" : Str)).names.lookup ("number" : Str) = some .local := by decide +kernel
theorem ls_r : (lamScope ("number" : Str) ("standings" : Str)).names.lookup ("standings" : Str) = some .free := by decide +kernel
theorem ls_l : (lamScope ("number" : Str) ("standings" : Str)).names.lookup ("len" : Str) = some .globalImplicit := by decide +kernel
theorem ls_c : ∀ x ∈ (lamScope ("number" : Str) ("standings" : Str)).names, x.2 ≠ .cell := by decide +kernel
theorem isList_keeps {h h' : Heap} {a : Addr} {xs : Array Value} (x : h.IsList a xs) (k : ∀ b o, h.get? b = some o → h'.get? b = some o) : h'.IsList a xs := by
  obtain ⟨o, ho, r⟩ := x
  exact ⟨o, k _ _ ho, r⟩
section
variable {prog : Program} {w : World} {A : Around} {s : Shared} {mg mb : Str → Option Value} {f c c' a t wd : Addr} {q : Str} {cl : List (Str × Addr)} {pm ctv : Value} {p0 p1 p2 p3 p4 p5 p6 p7 p8 : Pos} {its tits wits : List Value} {n : Nat} {tk : Tok}
theorem body_runs {env : Env} {E : Value → Shared → Prop} {Q : Value → Shared → Prop}
    (hk : env.scope.kind = .function) (hgl : env.globals = mainGlobals) (hbl : env.builtins = builtinsNs) (k1 : env.kindOf "number" = some .local) (k2 : env.kindOf "standings" = some .free) (k3 : env.kindOf "len" = some .globalImplicit)
    (hn : s.heap.Ns env.locals fun y => if y = ("number" : Str) then some (.int n tk) else none) (hc : env.cells.lookup ("standings" : Str) = some c) (hcell : s.heap.IsCell c (some (.ref a)))
    (hg : s.heap.Ns mainGlobals mg) (hm : mg ("len" : Str) = none) (hb : s.heap.Ns builtinsNs mb) (hv : mb ("len" : Str) = some (.builtin "len"))
    (hl : s.heap.IsList a its.toArray) (hi : its[n]? = some (.ref t)) (ht : IsTup s.heap t tits.toArray) (hw : tits[0]? = some (.ref wd)) (hwl : s.heap.IsList wd wits.toArray)
    (hz : its.length ≤ sizeLine) (hzt : tits.length ≤ sizeLine) (hz2 : wits.length ≤ sizeLine)
    (hQ : ∀ tk t', Q (.int (-(wits.length : Int)) t') { s with toks := tk }) :
    wpAny (model prog w) A (eval (lamBody ("number" : Str) ("standings" : Str) p1 p2 p3 p4 p5 p6 p7 p8) env) Q E s := by
  have hn63 := line63
  refine UnaryOp_ ?_
  refine wpAny_Call_Name_kw (Calls.Name_function_global hk k3 (Calls.loadGlobal_builtin (by rw [hgl]; exact hg) hm (by rw [hbl]; exact hb) hv ?_))
  refine PyProof.Rows.callWith_builtin1 (args_cons ?_) (by rfl) (by rfl)
  refine Subscript_ (Subscript_ ?_)
  refine wpAny_Name (wpAny_loadName_free hk k2 hc hcell ?_)
  refine wpAny_Name (wpAny_loadName_local (v := .int n tk) hk k1 hn (by rw [if_pos rfl]) ?_)
  have hlt : n < its.length := (List.getElem?_eq_some_iff.mp hi).1
  refine item_listR hl (by omega) (by omega) (x := .ref t) (by simpa using hi) ?_
  refine wpAny_Constant_int ?_
  have h0 : 0 < tits.length := (List.getElem?_eq_some_iff.mp hw).1
  refine subscriptTail_builtinR (x := .ref wd) ht.typeIs slot_tuple_getitem.lookup
    (getItem_tuple (j := 0) (Q := fun r s' => r = .ref wd ∧ _) ht (by omega) (by omega) (by rw [List.size_toArray]; exact seqIndex_of (Int.le_refl 0) (by omega)) (by simpa using hw) ⟨rfl, ?_⟩)
  refine args_nil ?_
  refine Calls.call_len_list hwl (by rw [List.size_toArray]; omega) ?_
  refine neg_int ?_
  rw [List.size_toArray]
  exact hQ _ _

/-- the lambda called -/
theorem lam_call (hf : s.heap.get? f = some (PySem.W.kla_obj "<lambda>" q (lamArgs ("number" : Str) p0) (lamBody ("number" : Str) ("standings" : Str) p1 p2 p3 p4 p5 p6 p7 p8) (lamScope ("number" : Str) ("standings" : Str)) cl pm c' ctv))
    (hcd : s.heap.CodeRec (.ref c') q) (hroom : A.depth < recursionLimit) (hlim : s.heap.NoLimit)
    (hc : cl.lookup ("standings" : Str) = some c) (hcell : s.heap.IsCell c (some (.ref a)))
    (hg : s.heap.Ns mainGlobals mg) (hm : mg ("len" : Str) = none) (hb : s.heap.Ns builtinsNs mb) (hv : mb ("len" : Str) = some (.builtin "len"))
    (hl : s.heap.IsList a its.toArray) (hi : its[n]? = some (.ref t)) (ht : IsTup s.heap t tits.toArray) (hw : tits[0]? = some (.ref wd)) (hwl : s.heap.IsList wd wits.toArray)
    (hz : its.length ≤ sizeLine) (hzt : tits.length ≤ sizeLine) (hz2 : wits.length ≤ sizeLine) :
    wpAny (model prog w) A (call (.ref f) [.int n tk]) (PySem.W.KeyPure (.int (-(wits.length : Int))) s) (fun _ _ => False) s := by
  refine wpAny_call ?_
  refine PySem.W.kla_callFunE hroom hf rfl rfl rfl rfl hcd ?_
  have eb : bindArgs (PySem.W.kla_fn "<lambda>" q (lamArgs ("number" : Str) p0) (lamBody ("number" : Str) ("standings" : Str) p1 p2 p3 p4 p5 p6 p7 p8) (lamScope ("number" : Str) ("standings" : Str)) cl pm (.ref c') ctv) ⟨[.int n tk], []⟩ = pure [(("number" : Str), .int n tk)] := rfl
  rw [eb]
  refine wpAny_pure (wpAny_newFunctionEnv ls_c (fun y hy => by
    rw [List.mem_singleton.mp hy]
    exact ls_x) (fun h₁ hns hsb => ⟨hlim.fresh _ hsb, ?_⟩) rfl)
  have kp : ∀ b o, s.heap.get? b = some o → h₁.get? b = some o := fun b o e => hsb.extBut b o (Nat.ne_of_lt (Heap.lt_size e)) (Heap.get?_push_of_some _ e)
  refine PySem.W.kla_codeExpr ?_
  have hns' : h₁.Ns s.heap.objs.size fun y => if y = ("number" : Str) then some (.int n tk) else none := by
    have e : (fun y => ([(("number" : Str), Value.int n tk)] : List (Str × Value)).reverse.lookup y) = fun y => if y = ("number" : Str) then some (.int n tk) else none := by
      funext y
      show List.lookup y [(("number" : Str), Value.int n tk)] = _
      rw [List.lookup_cons]
      by_cases hy : y = ("number" : Str)
      · rw [if_pos hy, hy]; simp
      · rw [if_neg hy, beq_eq_false_iff_ne.mpr hy]; rfl
    rw [← e]
    exact hns
  refine body_runs (s := { s with heap := h₁, toks := s.toks + 1 }) rfl rfl rfl ls_x ls_r ls_l hns' hc ?_ (hg.keeps kp) hm (hb.keeps kp) hv (isList_keeps hl kp) hi (ht.keeps kp) hw (isList_keeps hwl kp) hz hzt hz2 fun tk2 t2 => ?_
  · obtain ⟨o, ho, hd⟩ := hcell
    exact ⟨o, kp _ _ ho, hd⟩
  · exact ⟨h₁, tk2, rfl, kp, .int _ _⟩
end

section
variable {prog : Program} {w : World} {A : Around} {E : Value → Shared → Prop} {s : Shared} {r f : Addr} {t u v : Tok} {n : Nat}
abbrev IsN (x : Value) (i : Nat) : Prop := ∃ t, x = .int (i : Int) t
theorem each_ints {R : Value → Nat → Prop} : ∀ (l : List Value) (k : Nat), (∀ j x, l[j]? = some x → R x (k + j)) → PySem.W.EachIs R l (List.range' k l.length)
  | [], k, _ => .nil
  | x :: l, k, h => by
    rw [List.length_cons, List.range'_succ]
    refine .cons (by simpa using h 0 x rfl) (each_ints l (k + 1) fun j y e => ?_)
    have := h (j + 1) y (by simpa using e)
    rwa [Nat.add_assoc, Nat.add_comm 1 j]
theorem sorted_range_key {Q : Value → Shared → Prop} (key : Nat → Int) (hh : A.handled = none) (hr : IsRange s.heap r 0 (n : Int) 1 t u v) (hn : n ≤ 100000) (hu : A.units + 10 < cLine)
    (turn : ∀ (i : Nat) (tk : Tok), i < n → ∀ (h : Heap) (tk0 : Nat), (∀ b o, s.heap.get? b = some o → h.get? b = some o) →
      wpAny (model prog w) A.in1.in1 (call (.ref f) [.int i tk]) (PySem.W.KeyPure (.int (key i)) { s with heap := h, toks := tk0 }) (fun _ _ => False) { s with heap := h, toks := tk0 })
    (h : ∀ (out : List Value) (c : Nat) (h1 h' : Heap) (tk : Nat), (∀ b o, s.heap.get? b = some o → h1.get? b = some o) → (∀ b o, h1.get? b = some o → h'.get? b = some o) → h'.get? h1.objs.size = some (seqObj "list" out.toArray c) →
      PySem.W.EachIs IsN out ((List.range n).mergeSort fun i j => decide (key i ≤ key j)) → Q (.ref h1.objs.size) { s with heap := h', toks := tk }) :
    wpAny (model prog w) A (call (.builtin "sorted") [.ref r] [(Str.ofString "key", .ref f)]) Q E s := by
  have hsz := sizeLine_eq
  refine call_function_entry_kw kind_sorted plain_sorted entry_sorted (ksk_s1 _ _) ?_
  unfold Builtin.«sorted»
  refine wpAny_bind (m := checkCount "sorted" 1 1 _) (wpAny_pure ?_)
  have hrs : Builtin.Range.rangeSize 0 (n : Int) 1 = n := by
    unfold Builtin.Range.rangeSize
    simp
    omega
  have hsm : Builtin.Range.small 0 (n : Int) 1 = true := by
    unfold Builtin.Range.small
    rw [hrs]
    simp [Builtin.Range.rangeFitsLong]
    omega
  refine wpAny_bind (collect_range (A := A.in1) hh hr hsm hrs (by omega) fun h1 tk1 acc k1 hi => ?_)
  have hal : acc.toList.length = n := by rw [Array.length_toList]; exact hi.1
  refine wpAny_bind (wpAny_newList ?_ (by rw [hal]; omega))
  have hL : (h1.push (seqObj "list" acc.toList.toArray 0)).get? h1.objs.size = some (seqObj "list" acc.toList.toArray 0) := Heap.get?_push_size _ rfl
  have k2 : ∀ b o, s.heap.get? b = some o → (h1.push (seqObj "list" acc.toList.toArray 0)).get? b = some o := fun b o e => Heap.get?_push_of_some _ (k1 b o e)
  have ebs : PySem.W.EachIs IsN acc.toList (List.range n) := by
    have e := each_ints (R := IsN) acc.toList 0 fun j x hx => ?_
    · rw [hal, ← List.range_eq_range'] at e
      exact e
    · obtain ⟨t, ht⟩ := hi.2 j x (by simpa using hx)
      exact ⟨t, by rw [ht, Int.mul_one, Int.zero_add, Nat.zero_add]⟩
  refine wpAny_bind (wpAny_holding (wpAny_call_entry_kw slot_list_sort ⟨_, hL, rfl⟩ entry_list_sort ?_ (ksk_l1 _ _)))
  rw [ksk_t1]
  have up : ∀ {g : Heap}, PySem.W.KeepsBut h1.objs.size (h1.push (seqObj "list" acc.toList.toArray 0)) g → ∀ b o, h1.get? b = some o → g.get? b = some o := fun {g} kp b o e =>
    kp b o (Nat.ne_of_lt (Heap.lt_size e)) (Heap.get?_push_of_some _ e)
  refine PySem.W.keyH_tree (kz := (List.range n).map fun i => PyData.int (key i)) hL (by rw [List.length_map, List.length_range, hal]) (by rw [hal]; omega) (PySem.W.AllAlike.of fun i j => rfl) (PySem.W.Sortable.others fun i => ⟨(fun z => nomatch z), fun xs z => nomatch z⟩) (fun d hd => ?_)
    (PySem.W.keyH_turns (s := { s with heap := h1.push (seqObj "list" acc.toList.toArray 0), toks := tk1 }) (k := fun i => PyData.int (key i)) ebs fun x i hR hx h2 tk2 kp => ?_) fun h2 tk2 out c kp hD ko => ⟨_, rfl, ?_⟩
  · obtain ⟨i, _, rfl⟩ := List.mem_map.mp hd
    show A.units + 1 + 1 + 0 < cLine
    omega
  · obtain ⟨t, rfl⟩ := hR
    exact turn i t (List.mem_range.mp hx) h2 tk2 fun b o e => up kp b o (k1 b o e)
  · refine wpAny_pure ⟨_, rfl, ?_⟩
    have e := PySem.W.keyedOut_each _ ko ebs
    rw [PySem.W.dataLe_int] at e
    exact h out c h1 h2 tk2 k1 (up kp) hD e
end

section
open LamX
variable {X : Cx}
theorem pe_range1 {p pos : Pos} {e : Expr} {te : TE} (hg : Gl X "range") (hm : X.mg "range" = none) (he : PE X e te) (hs : starEach [e] X.env = (false, eval e X.env) :: starEach [] X.env := by rfl) : PE X (.Call (.Name "range" p) [e] [] pos) (tCB (fun vs H Q => ∃ j : Int, vs = [V.int j] ∧ ∀ q, H q = none → Q (.ref q) (upd H q (.rng 0 j))) (tCons te tNil)) :=
  pe_callTy (T := "range") (fun pins s σ H vs us Q I r h => by
    obtain ⟨j, rfl, q⟩ := h
    obtain ⟨u1, rfl, rj⟩ := vals1 r
    obtain ⟨u, rfl⟩ := rj
    refine call_range_1 ⟨.ref s.heap.objs.size, upd H s.heap.objs.size (.rng 0 j), I.laid (t' := s.toks + 1 + 1) (fun b o e => Heap.get?_push_of_some _ e) (Nat.le_refl _) ?_, rfl, q _ (I.hok.fresh (Nat.le_refl _))⟩
    exact ⟨s.toks, u, s.toks + 1, Heap.get?_push_size _ rfl⟩) hg hm (by decide +kernel) (pa_cons he pa_nil (hs := hs)) (he := hs)

/-- sorted(range(..), key=lambda number: -len(rows[number][0])), the rows in slot i, a cell -/
def tSortLam (T : List (Addr × Str)) (K : PySem.W.Frag) (i : Nat) (ti : TE) : TE := fun σ H Q => ti σ H fun x H1 => ∃ (r : Addr) (n : Nat) (a : Addr) (ts : List Addr) (key : Nat → Int), x = .ref r ∧ H1 r = some (.rng 0 (n : Int)) ∧ n ≤ 100000 ∧ σ[i]? = some (some (.ref a)) ∧
  SqL K H1 a (ts.map V.ref) ∧ ts.length = n ∧ (∀ (j : Nat) (t : Addr), ts[j]? = some t → ∃ (wd : Addr) (more xs : List V), SqT K H1 t (.ref wd :: more) ∧ SqL K H1 wd xs ∧ key j = -(xs.length : Int)) ∧ Tabs T H1 ∧
  ∀ (p : Addr) (H2 : Hp), ExtN H1 H2 → Tabs T H2 → H2 p = none → Q (.ref p) (upd H2 p (.lst (((List.range n).mergeSort fun i j => decide (key i ≤ key j)).map fun (j : Nat) => V.int (j : Int))))
theorem sqL_ext {K : PySem.W.Frag} {H H' : Hp} {a : Addr} {xs : List V} (e : ExtN H H') (h : SqL K H a xs) : SqL K H' a xs := by
  rcases h with (h | ⟨o, h⟩) | h
  · exact .inl (.inl (e _ _ h fun ps z => nomatch z))
  · exact .inl (.inr ⟨o, e _ _ h fun ps z => nomatch z⟩)
  · exact .inr h
theorem sqT_ext {K : PySem.W.Frag} {H H' : Hp} {a : Addr} {xs : List V} (e : ExtN H H') (h : SqT K H a xs) : SqT K H' a xs := by
  rcases h with (h | ⟨o, h⟩) | h
  · exact .inl (.inl (e _ _ h fun ps z => nomatch z))
  · exact .inl (.inr ⟨o, e _ _ h fun ps z => nomatch z⟩)
  · exact .inr h
theorem vals_of_each : ∀ (l : List Value) (ns : List Nat), PySem.W.EachIs IsN l ns → Vals (ns.map fun (j : Nat) => V.int (j : Int)) l
  | _, _, .nil => .nil
  | _, _, .cons h t => .cons h (vals_of_each _ _ t)
theorem pe_sortLam {T : List (Addr × Str)} {i : Nat} {iter : Expr} {ti : TE} {c P : Addr} {k : Nat} {q1 kpos lpos pos p0 p1 p2 p3 p4 p5 p6 p7 p8 : Pos} (hg : Gl X "sorted") (hm : X.mg "sorted" = none) (hmL : X.mg "len" = none) (hi : PE X iter ti)
    (hN : X.N[i]? = some ("standings" : Str)) (hcl : X.env.scope.names.lookup ("standings" : Str) = some .cell) (TB : TabB X.base X.mg c P) (hcode : X.env.code = .ref c) (hmT : (P, X.env.qual ++ "<lambda>") ∈ T) (hu : ∀ p ∈ T, p.1 = P → p.2 = X.env.qual ++ "<lambda>") (hr : Room k X.A)
    (he : backTo pos (starEach [iter] X.env) = (false, eval iter X.env) :: backTo pos (starEach [] X.env) := by rfl) (hpl : (backTo pos (starEach [iter] X.env)).any (·.1) = false := by rfl) :
    PE X (.Call (.Name "sorted" q1) [iter] [⟨some "key", .Lambda (lamArgs ("number" : Str) p0) (lamBody ("number" : Str) ("standings" : Str) p1 p2 p3 p4 p5 p6 p7 p8) (lamScope ("number" : Str) ("standings" : Str)) lpos, kpos⟩] pos) (tSortLam T X.K i ti) := by
  refine ⟨fun pins s σ H Q I h => ?_⟩
  refine wpAny_Call_Name_kw (ld_blt I hg hm (u := .builtin "sorted") (by decide +kernel) ?_)
  refine PyProof.Rows.callWith_kw ?_ he hpl rfl rfl
  rw [he]
  refine Calls.spliced_cons (thn (hi.run pins s σ H _ I h) fun u s1 ⟨x, H1, I1, r1, q1⟩ => ?_)
  obtain ⟨r, n, a, ts, key, rfl, hrg, hn, hσ, hS, hlen, hrows, hT, q⟩ := q1
  obtain rfl : u = Value.ref r := r1
  refine Calls.spliced_nil ?_
  show wpAny _ _ (evalAll [do let v ← eval (.Lambda (lamArgs ("number" : Str) p0) (lamBody ("number" : Str) ("standings" : Str) p1 p2 p3 p4 p5 p6 p7 p8) (lamScope ("number" : Str) ("standings" : Str)) lpos) X.env; standAt pos; pure v]) _ _ s1
  have hfree : ∀ y ∈ (lamScope ("number" : Str) ("standings" : Str)).names, y.2 = NameKind.free → ∃ c, X.env.cells.lookup y.1 = some c := fun y hy e => by
    have hy1 : y = (("standings" : Str), NameKind.free) := by
      rcases List.mem_cons.mp hy with rfl | hy
      · cases e
      · rcases List.mem_cons.mp hy with rfl | hy
        · rfl
        · rw [List.mem_singleton.mp hy] at e
          cases e
    rw [hy1]
    exact I1.ok.has _ (.inl hcl)
  refine wpAny_evalAll_cons (wpAny_bind (lam_make2 I1 TB hcode hmT hu hT rfl hfree fun f c' pm ctv H2 s2 I2 e2 T2 hf hfn hfr hco => wpAny_bind (wpAny_standAt (wpAny_pure (wpAny_evalAll_nil ?_)))))
  -- the def's cell of rows
  have hcell : ∃ c2, X.env.cells.lookup ("standings" : Str) = some c2 ∧ s2.heap.IsCell c2 (some (.ref a)) := by
    obtain ⟨m, hn2, hl⟩ := I2.loc
    obtain ⟨w2, rv, l⟩ := hl i ("standings" : Str) _ hN hσ (.inr (.inl hcl))
    obtain rfl : w2 = Value.ref a := rv
    rcases l with ⟨hk, _⟩ | ⟨_, c2, h1, h2⟩
    · have hk : X.env.scope.names.lookup ("standings" : Str) = some .local := hk
      rw [hcl] at hk
      cases hk
    · exact ⟨c2, h1, h2⟩
  obtain ⟨c2, hc2, hcell⟩ := hcell
  have hcl2 : (cloFrom X.env.cells (lamScope ("number" : Str) ("standings" : Str)).names []).lookup ("standings" : Str) = some c2 := NdefX.clo_has hfree (by decide +kernel) hc2
  obtain ⟨mb, hb1, hb2⟩ := I2.mod.blt
  have rg2 : H2 r = some (.rng 0 (n : Int)) := e2 _ _ hrg fun ps z => nomatch z
  obtain ⟨t1, t2, t3, hrr⟩ := (show ObjOk X.prog X.w H2 s2.heap r (.rng 0 (n : Int)) from I2.hok r _ rg2)
  obtain ⟨its, rv, pl, hz⟩ := I2.list (sqL_ext e2 hS)
  have hun := hr.un
  have hdp := hr.dp
  refine sorted_range_key (f := f) key hr.hd hrr hn (by omega) (fun j tk hj h0 tk0 k0 => ?_) fun out cc h1 h' tk k1 k2 hD hE => ?_
  · have hjt : j < ts.length := by omega
    obtain ⟨wd, more, xs, ht, hw, hkey⟩ := hrows j ts[j] (by simp [hjt])
    obtain ⟨tits, rvt, plt, hzt⟩ := I2.tuple (sqT_ext e2 ht)
    obtain ⟨wits, rvw, plw, hzw⟩ := I2.list (sqL_ext e2 hw)
    have hlw := rvw.length
    have hlt := rvt.length
    have hli := rv.length
    obtain ⟨u1, hu1, ru1⟩ := rv.get (i := j) (x := .ref ts[j]) (by rw [List.getElem?_map]; simp [hjt])
    obtain rfl : u1 = Value.ref ts[j] := ru1
    obtain ⟨u2, hu2, ru2⟩ := rvt.get (i := 0) (x := .ref wd) rfl
    obtain rfl : u2 = Value.ref wd := ru2
    rw [hkey, hlw]
    refine lam_call (s := { s2 with heap := h0, toks := tk0 }) (k0 _ _ hf) ?_ (by show X.A.depth < recursionLimit; omega) (I2.nolimit.keeps k0) hcl2 ?_ ((I2.mod.glob.keeps I2.bk).keeps k0) hmL ((hb1.keeps I2.bk).keeps k0) ((hb2 _ (by decide)).trans (by decide +kernel))
      (isList_keeps pl.isList k0) hu1 (plt.keeps k0) hu2 (isList_keeps plw.isList k0) (by omega) (by omega) (by omega)
    · obtain ⟨c3, oc, vs, t, z1, z2, z3, z4⟩ := NdefX.codeO_at I2.hok hco
      exact ⟨c3, oc, vs, t, z1, k0 _ _ z2, z3, z4⟩
    · obtain ⟨o, ho, hd⟩ := hcell
      exact ⟨o, k0 _ _ ho, hd⟩
  · have I3 : Inv X pins σ H2 { s2 with heap := h1 } := I2.kept (t' := s2.toks) k1
    have hl2 : (((List.range n).mergeSort fun i j => decide (key i ≤ key j)).map fun (j : Nat) => V.int (j : Int)).length ≤ sizeLine := by
      rw [List.length_map, List.length_mergeSort, List.length_range, sizeLine_eq]
      omega
    have I4 := I3.laid (a := h1.objs.size) (t' := tk) (h' := h') (o := .lst (((List.range n).mergeSort fun i j => decide (key i ≤ key j)).map fun (j : Nat) => V.int (j : Int))) k2 (Nat.le_refl _) ⟨hl2, out, cc, vals_of_each _ _ hE, hD⟩
    exact ⟨.ref h1.objs.size, _, I4, rfl, q _ H2 e2 T2 (I3.hok.fresh (Nat.le_refl _))⟩
theorem pe_sortLamK (K : PySem.W.Frag) {T : List (Addr × Str)} {i : Nat} {iter : Expr} {ti : TE} {c P : Addr} {k : Nat} {q1 kpos lpos pos p0 p1 p2 p3 p4 p5 p6 p7 p8 : Pos} (hg : Gl X "sorted") (hm : X.mg "sorted" = none) (hmL : X.mg "len" = none) (hi : PE X iter ti)
    (hN : X.N[i]? = some ("standings" : Str)) (hcl : X.env.scope.names.lookup ("standings" : Str) = some .cell) (TB : TabB X.base X.mg c P) (hcode : X.env.code = .ref c) (hmT : (P, X.env.qual ++ "<lambda>") ∈ T) (hu : ∀ p ∈ T, p.1 = P → p.2 = X.env.qual ++ "<lambda>") (hr : Room k X.A) (hK : X.K = K := by rfl)
    (he : backTo pos (starEach [iter] X.env) = (false, eval iter X.env) :: backTo pos (starEach [] X.env) := by rfl) (hpl : (backTo pos (starEach [iter] X.env)).any (·.1) = false := by rfl) :
    PE X (.Call (.Name "sorted" q1) [iter] [⟨some "key", .Lambda (lamArgs ("number" : Str) p0) (lamBody ("number" : Str) ("standings" : Str) p1 p2 p3 p4 p5 p6 p7 p8) (lamScope ("number" : Str) ("standings" : Str)) lpos, kpos⟩] pos) (tSortLam T K i ti) :=
  hK ▸ pe_sortLam hg hm hmL hi hN hcl TB hcode hmT hu hr he hpl
end
end QL
end

section
set_option Elab.async false
set_option linter.all false
set_option maxRecDepth 100000
/-! words, ways, standings in the abstract heap; what is kept -/
namespace QB
open PySem PySem.Spec PyProof.Rows L2 LamX

/-! ### text facts as data -/
/-- a def of the text: where it stands, how it binds -/
structure DefAt (K : PySem.W.Frag) (x qual : Str) (st : Stmt) (ps : List Str) : Type where
  a : Addr
  fd : FuncData
  F : Fun K x qual st a fd
  b : Binds K fd ps []
/-- .. a def of the module, by its name -/
structure TopAt (K : PySem.W.Frag) (mg : Str → Option Value) (x : Str) (st : Stmt) (ps : List Str) : Type extends DefAt K x x st ps where
  mg : mg x = some (.ref a)

section
variable {X : Cx}
theorem pe_gc {x : Str} {v : V} {pos : Pos} (hg : Gl X x) (h : ∃ u, X.mg x = some u ∧ RelV v u) (hd : (x == ("__debug__" : Str)) = false := by decide) : PE X (.Name x pos) (tC v) := by
  obtain ⟨u, hm, r⟩ := h
  exact pe_glob hg hm r hd
end
theorem bo_isinstance : bootBuiltins "isinstance" = some (.builtin "isinstance") := by decide +kernel
theorem bo_abs : bootBuiltins "abs" = some (.builtin "abs") := by decide +kernel
theorem bo_max : bootBuiltins "max" = some (.builtin "max") := by decide +kernel
theorem bo_min : bootBuiltins "min" = some (.builtin "min") := by decide +kernel
theorem bo_sum : bootBuiltins "sum" = some (.builtin "sum") := by decide +kernel
theorem bo_all : bootBuiltins "all" = some (.builtin "all") := by decide +kernel
theorem bo_any : bootBuiltins "any" = some (.builtin "any") := by decide +kernel
theorem bo_len : bootBuiltins "len" = some (.builtin "len") := by decide +kernel
theorem bo_sorted : bootBuiltins "sorted" = some (.builtin "sorted") := by decide +kernel
theorem bo_list : bootBuiltins "list" = some (.type "list") := by decide +kernel
theorem bo_tuple : bootBuiltins "tuple" = some (.type "tuple") := by decide +kernel
theorem bo_int : bootBuiltins "int" = some (.type "int") := by decide +kernel
theorem bo_str : bootBuiltins "str" = some (.type "str") := by decide +kernel
theorem bo_bool : bootBuiltins "bool" = some (.type "bool") := by decide +kernel
theorem bo_range : bootBuiltins "range" = some (.type "range") := by decide +kernel
theorem bo_enumerate : bootBuiltins "enumerate" = some (.type "enumerate") := by decide +kernel
theorem bo_zip : bootBuiltins "zip" = some (.type "zip") := by decide +kernel
theorem bo_dict : bootBuiltins "dict" = some (.type "dict") := by decide +kernel
theorem bo_set : bootBuiltins "set" = some (.type "set") := by decide +kernel
theorem hu64 {A : Around} {k : Nat} (hr : Room k A) : A.units + 64 < cLine := hr.units

/-! ### rules with the written part named -/
section
variable {X : Cx} (K : PySem.W.Frag)
theorem ix_listK (h : X.K = K := by rfl) : IxR X (rIxL K) := h ▸ ix_list
theorem ix_tupK (h : X.K = K := by rfl) : IxR X (rIxT K) := h ▸ ix_tup
def rLen (K : PySem.W.Frag) : List V → Hp → VK → Prop := fun xs H Q => ∃ p ys, xs = [.ref p] ∧ (SqL K H p ys ∨ SqT K H p ys) ∧ Q (.int ys.length) H
theorem call_lenK (h : X.K = K := by rfl) : CallR X (.builtin "len") (rLen K) := h ▸ call_len_seq
def rListOf (K : PySem.W.Frag) : List V → Hp → VK → Prop := fun xs H Q => ∃ p ys, xs = [.ref p] ∧ (SqL K H p ys ∨ SqT K H p ys) ∧ ∀ l, H l = none → Q (.ref l) (upd H l (.lst ys))
theorem call_listK (h : X.K = K := by rfl) : CallR X (.type "list") (rListOf K) := h ▸ call_list_of
def rTupOf (K : PySem.W.Frag) : List V → Hp → VK → Prop := fun xs H Q => ∃ p ys, xs = [.ref p] ∧ ((SqL K H p ys ∧ ∀ l, H l = none → Q (.ref l) (upd H l (.tup ys))) ∨ (SqT K H p ys ∧ Q (.ref p) H))
theorem call_tupleK (h : X.K = K := by rfl) : CallR X (.type "tuple") (rTupOf K) := h ▸ call_tuple_of
theorem call_isiK (h : X.K = K := by rfl) : CallR X (.builtin "isinstance") (rIsi K) := h ▸ call_isi
theorem cr_allK (hc : X.calm = true) (h : X.K = K := by rfl) : CallR X (.builtin "all") (rAll K) := h ▸ cr_all hc
theorem cr_anyK (hc : X.calm = true) (h : X.K = K := by rfl) : CallR X (.builtin "any") (rAny K) := h ▸ cr_any hc
theorem cr_maxK (hc : X.calm = true) (h : X.K = K := by rfl) : CallR X (.builtin "max") (rMax K) := h ▸ cr_max hc
theorem mt_indexK (h : X.K = K := by rfl) : MtR X "list.index" (rIndex K) := h ▸ mt_index
theorem op_inK (h : X.K = K := by rfl) : OpR X (compareOp .In) (rIn K false) := h ▸ op_in_seq
theorem op_notInK (h : X.K = K := by rfl) : OpR X (compareOp .NotIn) (rIn K true) := h ▸ op_notIn_seq
theorem op_eqDK (hu : X.A.units + 64 < cLine) (h : X.K = K := by rfl) : OpR X (compareOp .Eq) (rEqD K) := h ▸ op_eqD hu
theorem op_neDK (hu : X.A.units + 64 < cLine) (h : X.K = K := by rfl) : OpR X (compareOp .NotEq) (rNeD K) := h ▸ op_neD hu
theorem sl_listK (h : X.K = K := by rfl) : SlR X (rSlL K) := h ▸ sl_list
theorem pi_listK {tg l : Expr} {tl : TE} (he : PE X l tl) (h : X.K = K := by rfl) : PI X tg l (iList K tl) := h ▸ pi_list he
theorem pe_fldK {e : Expr} {ta : TE} {f : Str} {pos : Pos} (he : PE X e ta) (hb : attributeBase e f X.env (eval e X.env) = eval e X.env) (h : X.K = K := by rfl) : PE X (.Attribute e f pos) (tFld K ta f) := h ▸ pe_fld he hb
theorem pe_bmK {o e : Expr} {es : List Expr} {to : TE} {t : TA} {name : Str} {apos cpos : Pos} {T id : String} {r : V → List V → Hp → VK → Prop} (pa : PlainAttrs T) (slot : Slot T name id)
    (hty : typeOf (.builtin id) = pure (.type "method_descriptor")) (hm : MtR X id r) (ho : PE X o to) (ha : PA X (e :: es) t) (h : X.K = K := by rfl) (hbase : attributeBase o name X.env (eval o X.env) = eval o X.env := by rfl)
    (hfew : ((backTo cpos (starEach (e :: es) X.env)).all (fun x => !x.1) && (backToKw cpos (keywordEach [] X.env)).all (fun x => x.1.isSome) && decide ((e :: es).length + ([] : List Keyword).length + (if ([] : List Keyword).isEmpty then 0 else 1) < 30)) = true := by rfl)
    (hline : (apos.endLine == cpos.line) = true := by rfl) (hs : starEach (e :: es) X.env = (false, eval e X.env) :: starEach es X.env := by rfl) (hp : (backTo cpos (starEach es X.env)).any (·.1) = false := by rfl) :
    PE X (.Call (.Attribute o name apos) (e :: es) [] cpos) (tBM K T r to t) := h ▸ pe_bm pa slot hty hm ho ha hbase hfew hline hs hp
theorem pe_bm0K {o : Expr} {to : TE} {name : Str} {apos cpos : Pos} {T id : String} {r : V → List V → Hp → VK → Prop} (pa : PlainAttrs T) (slot : Slot T name id)
    (hty : typeOf (.builtin id) = pure (.type "method_descriptor")) (hm : MtR X id r) (ho : PE X o to) (h : X.K = K := by rfl) (hbase : attributeBase o name X.env (eval o X.env) = eval o X.env := by rfl)
    (hline : (apos.endLine == cpos.line) = true := by rfl) : PE X (.Call (.Attribute o name apos) [] [] cpos) (tBM0 K T r to) := h ▸ pe_bm0 pa slot hty hm ho hbase hline
theorem pi_enumK {e : Expr} {ta : TA} {p pos tpos : Pos} {elts : List Expr} {kk : Nat} (hg : Gl X "enumerate") (hm : X.mg "enumerate" = none) (ha : PA X [e] ta) (h : X.K = K := by rfl) (hs : starEach [e] X.env = [(false, eval e X.env)] := by rfl) :
    PI X (.Tuple elts kk tpos) (.Call (.Name "enumerate" p) [e] [] pos) (iEnum K ta) := h ▸ pi_enum hg hm ha hs
theorem pi_zipK {e e2 : Expr} {ta : TA} {p pos tpos : Pos} {elts : List Expr} {kk : Nat} (hg : Gl X "zip") (hm : X.mg "zip" = none) (ha : PA X [e, e2] ta) (h : X.K = K := by rfl)
    (hs : starEach [e, e2] X.env = (false, eval e X.env) :: starEach [e2] X.env := by rfl) (hpl : (backTo pos (starEach [e2] X.env)).any (·.1) = false := by rfl) :
    PI X (.Tuple elts kk tpos) (.Call (.Name "zip" p) [e, e2] [] pos) (iZip K ta) := h ▸ pi_zip hg hm ha hs hpl
end

/-! ### what stays: all but the tables of code objects, which grow -/
def Ext (T : List (Addr × Str)) (H H' : Hp) : Prop := ExtN H H' ∧ (Tabs T H → Tabs T H')
section
variable {T : List (Addr × Str)} {H H' H'' : Hp} {p : Addr} {o : HO} {K : PySem.W.Frag}
theorem Ext.refl : Ext T H H := ⟨ExtN.refl H, fun t => t⟩
theorem Ext.trans (a : Ext T H H') (b : Ext T H' H'') : Ext T H H'' := ⟨a.1.trans b.1, fun t => b.2 (a.2 t)⟩
theorem Ext.of (a : Same H H') : Ext T H H' := ⟨ExtN.of a, fun t => t.ext a⟩
theorem same_new (h : H p = none) : Same H (upd H p o) := fun b u e => by
  rw [upd_ne (ne_of_none e h)]
  exact e
theorem Same.new (a : Same H H') (h : H' p = none) : Same H (upd H' p o) := fun b u e => by
  have e' := a b u e
  rw [upd_ne (ne_of_none e' h)]
  exact e'
/-- an object that was not there at H may change -/
theorem Same.mut (a : Same H H') (h : H p = none) : Same H (upd H' p o) := fun b u e => by
  rw [upd_ne (ne_of_none e h)]
  exact a b u e
theorem Ext.new (h : H p = none) : Ext T H (upd H p o) := .of (same_new h)
theorem Ext.get {u : HO} (a : Ext T H H') (h : H p = some u) (n : ∀ ps, u ≠ .tbl ps := by intro _ z; cases z) : H' p = some u := a.1 _ _ h n
theorem Ext.lst {xs : List V} (a : Ext T H H') (h : H p = some (.lst xs)) : H' p = some (.lst xs) := a.1 _ _ h fun _ z => nomatch z
theorem Ext.tup {xs : List V} (a : Ext T H H') (h : H p = some (.tup xs)) : H' p = some (.tup xs) := a.1 _ _ h fun _ z => nomatch z
/-- not there, but for a table -/
def Fresh (H : Hp) (p : Addr) : Prop := ∀ o, H p = some o → ∃ ps, o = .tbl ps
theorem Fresh.of (h : H p = none) : Fresh H p := fun o e => by
  rw [h] at e
  cases e
theorem Ext.fresh (a : Ext T H H') (h : Fresh H' p) : Fresh H p := fun o e => by
  by_cases hu : ∃ ps, o = .tbl ps
  · exact hu
  · exact h o (a.1 _ _ e fun ps z => hu ⟨ps, z⟩)
theorem Ext.free (a : Ext T H H') (h : H' p = none) : Fresh H p := a.fresh (.of h)
theorem Fresh.ne {q : Addr} {u : HO} (f : Fresh H p) (h : H q = some u) (n : ∀ ps, u ≠ .tbl ps := by intro _ z; cases z) : q ≠ p := fun e => by
  rw [e] at h
  obtain ⟨ps, z⟩ := f _ h
  exact n ps z
/-- what may be written without harm to the tables -/
def Plain : HO → Prop
  | .lst _ => True
  | .ins _ _ _ => True
  | .dK _ => True
  | _ => False
theorem Plain.tbl {o : HO} (h : Plain o) : ∀ ps, o ≠ .tbl ps := fun ps z => by
  rw [z] at h
  exact h
theorem Plain.code {o : HO} (h : Plain o) (c : Addr) (q : Str) : o ≠ CodeO c q := fun z => by
  rw [z] at h
  exact h
theorem tabs_mut {u : HO} (t : Tabs T H) (h : H p = some u) (hu : Plain u) : Tabs T (upd H p o) := fun q hq => by
  obtain ⟨ps, h1, h2, h3⟩ := t q hq
  refine ⟨ps, by rw [upd_ne (ne_of h1 h (hu.tbl ps).symm)]; exact h1, h2, fun pos cv hc => ?_⟩
  obtain ⟨c, e1, e2⟩ := h3 pos cv hc
  exact ⟨c, e1, by rw [upd_ne (ne_of e2 h (hu.code c _).symm)]; exact e2⟩
theorem Ext.mut {u : HO} (a : Ext T H H') (f : Fresh H p) (h : H' p = some u) (hu : Plain u := by trivial) : Ext T H (upd H' p o) :=
  ⟨fun b x e n => by
    rw [upd_ne (f.ne e n)]
    exact a.1 _ _ e n, fun t => tabs_mut (a.2 t) h hu⟩
theorem Ext.new' (a : Ext T H H') (h : H' p = none) : Ext T H (upd H' p o) := a.trans (.new h)
theorem Ext.sqL {a : Addr} {xs : List V} (e : Ext T H H') (h : SqL K H a xs) : SqL K H' a xs := QL.sqL_ext e.1 h
theorem Ext.sqT {a : Addr} {xs : List V} (e : Ext T H H') (h : SqT K H a xs) : SqT K H' a xs := QL.sqT_ext e.1 h
end

/-! ### words, ways, standings -/
abbrev Word := List Str
abbrev Ways := List (Option Nat)
abbrev Std := Word × Ways
abbrev Form := List Std
def vS (w : Word) : List V := w.map V.str
def vW : Option Nat → V
  | none => .non
  | some n => .int (n : Int)
def vWs (ws : Ways) : List V := ws.map vW
section
variable (H : Hp)
def WordAt (a : Addr) (w : Word) : Prop := H a = some (.lst (vS w))
def WaysAt (a : Addr) (w : Ways) : Prop := H a = some (.lst (vWs w))
def StdAt (t : Addr) (s : Std) : Prop := ∃ a b, H t = some (.tup [.ref a, .ref b]) ∧ WordAt H a s.1 ∧ WaysAt H b s.2
def FormAt (p : Addr) (F : Form) : Prop := ∃ ts : List Addr, H p = some (.lst (ts.map V.ref)) ∧ Paired (StdAt H) ts F
end
section
variable {T : List (Addr × Str)} {K : PySem.W.Frag} {H H' : Hp} {a p : Addr} {w : Word} {ws : Ways} {F : Form} {s : Std}
theorem Ext.word (e : Ext T H H') (h : WordAt H a w) : WordAt H' a w := e.lst h
theorem Ext.ways (e : Ext T H H') (h : WaysAt H a ws) : WaysAt H' a ws := e.lst h
theorem Ext.std (e : Ext T H H') (h : StdAt H a s) : StdAt H' a s := by
  obtain ⟨x, y, h1, h2, h3⟩ := h
  exact ⟨x, y, e.tup h1, e.word h2, e.ways h3⟩
theorem Ext.form (e : Ext T H H') (h : FormAt H p F) : FormAt H' p F := by
  obtain ⟨ts, h1, h2⟩ := h
  exact ⟨ts, e.lst h1, L2.Paired.mapP h2 fun t s h => e.std h⟩
theorem Same.word (e : Same H H') (h : WordAt H a w) : WordAt H' a w := e _ _ h
theorem Same.ways (e : Same H H') (h : WaysAt H a ws) : WaysAt H' a ws := e _ _ h
theorem Same.std (e : Same H H') (h : StdAt H a s) : StdAt H' a s := (Ext.of (T := []) e).std h
theorem Same.form (e : Same H H') (h : FormAt H p F) : FormAt H' p F := (Ext.of (T := []) e).form h
theorem paired_get {α β : Type} {R : α → β → Prop} : ∀ {l : List α} {m : List β} {i : Nat} {b : β}, Paired R l m → m[i]? = some b → ∃ a, l[i]? = some a ∧ R a b
  | _, _, _, _, .nil, e => by simp at e
  | _, _, 0, _, .cons h t, e => by
    simp at e
    subst e
    exact ⟨_, rfl, h⟩
  | _, _, i + 1, _, .cons h t, e => by
    obtain ⟨a, h1, h2⟩ := paired_get (i := i) t (by simpa using e)
    exact ⟨a, by simpa using h1, h2⟩
theorem paired_get' {α β : Type} {R : α → β → Prop} : ∀ {l : List α} {m : List β} {i : Nat} {a : α}, Paired R l m → l[i]? = some a → ∃ b, m[i]? = some b ∧ R a b
  | _, _, _, _, .nil, e => by simp at e
  | _, _, 0, _, .cons h t, e => by
    simp at e
    subst e
    exact ⟨_, rfl, h⟩
  | _, _, i + 1, _, .cons h t, e => by
    obtain ⟨a, h1, h2⟩ := paired_get' (i := i) t (by simpa using e)
    exact ⟨a, by simpa using h1, h2⟩
/-- the k-th standing: its tuple, its lists -/
theorem FormAt.at {k : Nat} (h : FormAt H p F) (e : F[k]? = some s) : ∃ (vs : List V) (t a b : Addr), H p = some (.lst vs) ∧ vs.length = F.length ∧ vs[k]? = some (.ref t) ∧ H t = some (.tup [.ref a, .ref b]) ∧ WordAt H a s.1 ∧ WaysAt H b s.2 := by
  obtain ⟨ts, h1, h2⟩ := h
  obtain ⟨t, ht, x, y, h3, h4, h5⟩ := paired_get h2 e
  exact ⟨_, t, x, y, h1, by rw [List.length_map, Paired.length h2], by rw [List.getElem?_map, ht]; rfl, h3, h4, h5⟩
theorem FormAt.lst (h : FormAt H p F) : ∃ vs : List V, H p = some (.lst vs) ∧ vs.length = F.length := by
  obtain ⟨ts, h1, h2⟩ := h
  exact ⟨_, h1, by rw [List.length_map, Paired.length h2]⟩
theorem vS_get {k : Nat} {x : Str} (h : w[k]? = some x) : (vS w)[k]? = some (.str x) := by
  unfold vS
  rw [List.getElem?_map, h]
  rfl
theorem vWs_get {k : Nat} {x : Option Nat} (h : ws[k]? = some x) : (vWs ws)[k]? = some (vW x) := by
  unfold vWs
  rw [List.getElem?_map, h]
  rfl
theorem vS_len : (vS w).length = w.length := List.length_map _
theorem vWs_len : (vWs ws).length = ws.length := List.length_map _
theorem vS_flat : (vS w).all flatV = true := by
  rw [List.all_eq_true]
  intro x hx
  obtain ⟨s, _, rfl⟩ := List.mem_map.mp hx
  rfl
theorem eqV_str (x y : Str) : eqV (.str x) (.str y) = decide (x = y) := by
  by_cases h : x = y
  · subst h
    simp [eqV]
  · simp [eqV, h]
theorem inV_word (x : Str) : inV (.str x) (vS w) = decide (x ∈ w) := by
  unfold inV vS
  induction w with
  | nil => rfl
  | cons y w ih =>
    rw [List.map_cons, List.any_cons, ih, eqV_str]
    by_cases h : y = x
    · subst h
      simp
    · simp [h, Ne.symm h]
theorem vW_is (x : Option Nat) : decide (vW x = .non) = x.isNone := by
  cases x <;> rfl
theorem vS_append (v w : Word) : vS v ++ vS w = vS (v ++ w) := (List.map_append ..).symm
theorem cut_drop (xs : List V) (k : Nat) : cutV xs (some (k : Int)) none = xs.drop k := by
  unfold cutV
  rw [HT.sIx_nat, HT.sIx_none]
  by_cases h : k ≤ xs.length
  · rw [Nat.min_eq_left h, List.take_of_length_le (by rw [List.length_drop]; exact Nat.le_refl _)]
  · rw [Nat.min_eq_right (by omega), List.drop_eq_nil_of_le (Nat.le_refl _), List.drop_eq_nil_of_le (by omega), List.take_nil]
theorem cut_take (xs : List V) (k : Nat) : cutV xs none (some (k : Int)) = xs.take k := by
  unfold cutV
  rw [HT.sIx_nat, HT.sIx_none, List.drop_zero, Nat.sub_zero]
  by_cases h : k ≤ xs.length
  · rw [Nat.min_eq_left h]
  · rw [Nat.min_eq_right (by omega), List.take_of_length_le (Nat.le_refl _), List.take_of_length_le (by omega)]
theorem vS_drop (w : Word) (k : Nat) : (vS w).drop k = vS (w.drop k) := List.map_drop.symm
theorem vS_take (w : Word) (k : Nat) : (vS w).take k = vS (w.take k) := List.map_take.symm
theorem idxOf_min {tags : Word} {t : Str} : ∀ {m : Nat}, m < tags.idxOf t → ∀ {x}, tags[m]? = some x → x ≠ t := by
  induction tags with
  | nil => intro m h x e; simp at e
  | cons y tags ih =>
    intro m h x e z
    subst z
    rw [List.idxOf_cons] at h
    by_cases hy : y == x
    · rw [hy] at h
      simp at h
    · rw [Bool.not_eq_true] at hy
      rw [hy] at h
      simp at h
      cases m with
      | zero =>
        simp at e
        subst e
        simp at hy
      | succ m => exact ih (m := m) (by omega) (by simpa using e) rfl
/-- tags.index(tag), there -/
theorem index_word {tags : Word} {t : Str} {Q : VK} (h : WordAt H a tags) (ht : t ∈ tags) (q : Q (.int (tags.idxOf t : Nat)) H) : rIndex K (.ref a) [.str t] H Q := by
  have hlt : tags.idxOf t < tags.length := List.idxOf_lt_length_of_mem ht
  refine ⟨a, vS tags, .str t, tags.idxOf t, .str t, rfl, rfl, SqL.of h, rfl, vS_flat, vS_get ?_, by rw [eqV_str]; simp, fun m z hm hz => ?_, q⟩
  · rw [List.getElem?_eq_getElem hlt, List.getElem_idxOf]
  · have hm' : m < tags.length := Nat.lt_trans hm hlt
    have e : tags[m]? = some tags[m] := by simp [hm']
    rw [vS_get e] at hz
    cases hz
    rw [eqV_str]
    exact decide_eq_false (idxOf_min hm e)

/-! ### comprehensions whose elements leave all as it was -/
theorem sz_le {n : Nat} (h : n ≤ 100000) : n ≤ sizeLine := Nat.le_trans h (by decide)
theorem sz_lt {n : Nat} (h : n < 100000) : n < sizeLine := Nat.lt_of_lt_of_le h (by decide)
theorem lc_filter {J : It} {n : Nat} {G : Hp → Prop} {Y : Nat → Hp → V → Hp → Prop} (w : Walk J n G Y) {g : TG} {tt : TT} {te : TE} {vs : List Nat} {σ : L2.St} {H1 : Hp} {D : Addr} {Qd : Hp → Prop} (hD : H1 D = none) (hn : n ≤ 100000)
    (hG : ∀ H, Same H1 H → G H) (f : Nat → V) (p : Nat → Bool)
    (hs : ∀ (i : Nat) (x : V) (H H' : Hp) (k : VK) (N : Hp → Prop), i < n → Same H1 H → Y i H x H' → (p i = true → ∀ H4, Same H H4 → k (f i) H4) → (p i = false → ∀ H4, Same H H4 → N H4) →
      g x (wipe σ vs) H' fun σ2 H2 => wipe σ2 vs = wipe σ vs ∧ tt σ2 H2 fun b H3 => if b = true then te σ2 H3 k else N H3)
    (hd : ∀ H, Same H1 H → H D = some (.lst (((List.range n).filter p).map f)) → Qd H) :
    ∃ W : Nat → Nat → Hp → Prop, (∃ m, W 0 m (upd H1 D (.lst []))) ∧ ∀ i m H, W i m H →
      (J.stop i H ∧ Qd H) ∨ (J.go i H ∧ ∃ Nx : Hp → Prop, (∀ H', Nx H' → ∃ m', m' < m ∧ W (i + 1) m' H') ∧ ∀ x H', J.yld i H x H' → g x (wipe σ vs) H' fun σ2 H2 => wipe σ2 vs = wipe σ vs ∧ tt σ2 H2 fun b H3 =>
        if b = true then te σ2 H3 fun y H4 => ∃ acc, H4 D = some (.lst acc) ∧ acc.length < sizeLine ∧ Nx (upd H4 D (.lst (acc ++ [y]))) else Nx H3) := by
  refine lc_it w (fun i H => Same H1 H ∧ H D = some (.lst (((List.range i).filter p).map f))) ⟨Same.mut (Same.refl H1) hD, upd_same⟩ (fun i H _ h => hG H h.1) (fun i x H H' hi h y => ?_) fun H h => hd H h.1 h.2
  obtain ⟨s1, e⟩ := h
  refine hs i x H H' _ _ hi s1 y (fun hp H4 s4 => ⟨_, s4 _ _ e, ?_, Same.mut (s1.trans s4) hD, ?_⟩) (fun hp H4 s4 => ⟨s1.trans s4, ?_⟩)
  · have h1 := List.length_filter_le p (List.range i)
    rw [List.length_range] at h1
    rw [List.length_map]
    exact sz_lt (by omega)
  · rw [upd_same, List.range_succ, List.filter_append, List.map_append, List.filter_cons, if_pos hp]
    rfl
  · rw [s4 _ _ e, List.range_succ, List.filter_append, List.map_append, List.filter_cons, if_neg (by rw [hp]; decide)]
    simp
theorem lc_map {J : It} {n : Nat} {G : Hp → Prop} {Y : Nat → Hp → V → Hp → Prop} (w : Walk J n G Y) {g : TG} {te : TE} {vs : List Nat} {σ : L2.St} {H1 : Hp} {D : Addr} {Qd : Hp → Prop} (hD : H1 D = none) (hn : n ≤ 100000)
    (hG : ∀ H, Same H1 H → G H) (f : Nat → V)
    (hs : ∀ (i : Nat) (x : V) (H H' : Hp) (k : VK), i < n → Same H1 H → Y i H x H' → (∀ H4, Same H H4 → k (f i) H4) →
      g x (wipe σ vs) H' fun σ2 H2 => wipe σ2 vs = wipe σ vs ∧ te σ2 H2 k)
    (hd : ∀ H, Same H1 H → H D = some (.lst ((List.range n).map f)) → Qd H) :
    ∃ W : Nat → Nat → Hp → Prop, (∃ m, W 0 m (upd H1 D (.lst []))) ∧ ∀ i m H, W i m H →
      (J.stop i H ∧ Qd H) ∨ (J.go i H ∧ ∃ Nx : Hp → Prop, (∀ H', Nx H' → ∃ m', m' < m ∧ W (i + 1) m' H') ∧ ∀ x H', J.yld i H x H' → g x (wipe σ vs) H' fun σ2 H2 => wipe σ2 vs = wipe σ vs ∧ tYes σ2 H2 fun b H3 =>
        if b = true then te σ2 H3 fun y H4 => ∃ acc, H4 D = some (.lst acc) ∧ acc.length < sizeLine ∧ Nx (upd H4 D (.lst (acc ++ [y]))) else Nx H3) := by
  refine lc_it w (fun i H => Same H1 H ∧ H D = some (.lst ((List.range i).map f))) ⟨Same.mut (Same.refl H1) hD, upd_same⟩ (fun i H _ h => hG H h.1) (fun i x H H' hi h y => ?_) fun H h => hd H h.1 h.2
  obtain ⟨s1, e⟩ := h
  have q := hs i x H H' (fun y H4 => ∃ acc, H4 D = some (.lst acc) ∧ acc.length < sizeLine ∧ (Same H1 (upd H4 D (.lst (acc ++ [y]))) ∧ (upd H4 D (.lst (acc ++ [y]))) D = some (.lst ((List.range (i + 1)).map f)))) hi s1 y
    fun H4 s4 => ⟨_, s4 _ _ e, by rw [List.length_map, List.length_range]; exact sz_lt (by omega), Same.mut (s1.trans s4) hD, by rw [upd_same, List.range_succ, List.map_append]; rfl⟩
  exact q
/-- a list by its places -/
theorem range_map_get {α : Type} (f : Nat → V) (l : List α) (h : α → V) (e : ∀ (i : Nat) (x : α), l[i]? = some x → f i = h x) : (List.range l.length).map f = l.map h := by
  refine List.ext_getElem? fun i => ?_
  rw [List.getElem?_map, List.getElem?_map]
  by_cases hi : i < l.length
  · rw [List.getElem?_range hi, List.getElem?_eq_getElem hi]
    exact congrArg some (e i _ (List.getElem?_eq_getElem hi))
  · rw [List.getElem?_eq_none (by rw [List.length_range]; omega), List.getElem?_eq_none (by omega)]
    rfl
theorem filter_range {α : Type} (q : α → Bool) (h : α → V) (p : Nat → Bool) (f : Nat → V) (l : List α) (e : ∀ (i : Nat) (x : α), l[i]? = some x → p i = q x ∧ f i = h x) : ((List.range l.length).filter p).map f = (l.filter q).map h := by
  have all : ∀ n, n ≤ l.length → ((List.range n).filter p).map f = ((l.take n).filter q).map h := by
    intro n
    induction n with
    | zero => intro _; rfl
    | succ n ih =>
      intro hn
      have ha : l[n]? = some (l[n]'(by omega)) := List.getElem?_eq_getElem (by omega)
      obtain ⟨e1, e2⟩ := e n _ ha
      rw [List.range_succ, List.filter_append, List.map_append, List.take_succ, ha, List.filter_append, List.map_append, ih (by omega), List.filter_cons, e1]
      by_cases hq : q (l[n]'(by omega)) = true
      · rw [if_pos hq]
        simp [hq, e2]
      · rw [if_neg hq]
        simp [hq]
  have := all l.length (Nat.le_refl _)
  rwa [List.take_length] at this

/-! ### what loops give -/
theorem walk_enumW : Walk (Ite K a) w.length (fun H => WordAt H a w) (fun i H v H' => ∃ (t : Addr) (x : Str), w[i]? = some x ∧ H t = none ∧ v = .ref t ∧ H' = upd H t (.tup [.int (i : Nat), .str x])) := by
  have e := walk_enum (K := K) (a := a) (xs := vS w)
  rw [vS_len] at e
  refine e.mono (fun H h => SqL.of h) fun i H v H' hi _ y => ?_
  obtain ⟨t, x, z, h1, h2, h3, h4, h5⟩ := y
  cases h4
  have h5 : (vS w)[i]? = some z := h5
  have hw : w[i]? = some w[i] := by simp [hi]
  rw [vS_get hw] at h5
  cases h5
  exact ⟨t, _, hw, h2, h1, h3⟩
theorem walk_listW : Walk (Itl K a) w.length (fun H => WordAt H a w) (fun i H v H' => ∃ x : Str, w[i]? = some x ∧ v = .str x ∧ H' = H) := by
  have e := walk_list (K := K) (a := a) (xs := vS w)
  rw [vS_len] at e
  refine e.mono (fun H h => SqL.of h) fun i H v H' hi _ y => ?_
  obtain ⟨h1, h2⟩ := y
  have hw : w[i]? = some w[i] := by simp [hi]
  rw [vS_get hw] at h2
  cases h2
  exact ⟨_, hw, rfl, h1⟩
theorem walk_listWs : Walk (Itl K a) ws.length (fun H => WaysAt H a ws) (fun i H v H' => ∃ x : Option Nat, ws[i]? = some x ∧ v = vW x ∧ H' = H) := by
  have e := walk_list (K := K) (a := a) (xs := vWs ws)
  rw [vWs_len] at e
  refine e.mono (fun H h => SqL.of h) fun i H v H' hi _ y => ?_
  obtain ⟨h1, h2⟩ := y
  have hw : ws[i]? = some ws[i] := by simp [hi]
  rw [vWs_get hw] at h2
  cases h2
  exact ⟨_, hw, rfl, h1⟩
/-- a form's standings, the heap as it was -/
theorem walk_listF : Walk (Itl K p) F.length (fun H => FormAt H p F) (fun i H v H' => ∃ (s : Std) (t a b : Addr), F[i]? = some s ∧ v = .ref t ∧ H' = H ∧ H t = some (.tup [.ref a, .ref b]) ∧ WordAt H a s.1 ∧ WaysAt H b s.2) := by
  refine ⟨fun i H hi h => ?_, fun H h => ?_, fun i H v H' hi h y => ?_⟩
  · obtain ⟨vs, t, a, b, h1, h2, h3, _⟩ := FormAt.at h (show F[i]? = some F[i] by simp [hi])
    exact ⟨vs, _, SqL.of h1, h3⟩
  · obtain ⟨vs, h1, h2⟩ := FormAt.lst h
    exact ⟨_, SqL.of h1, by rw [h2]; exact Nat.le_refl _⟩
  · have e : F[i]? = some F[i] := by simp [hi]
    obtain ⟨vs, t, a, b, h1, h2, h3, h4, h5, h6⟩ := FormAt.at h e
    obtain ⟨y1, y2⟩ := y
    have := y2 vs (SqL.of h1)
    rw [h3] at this
    cases this
    exact ⟨_, t, a, b, e, rfl, y1, h4, h5, h6⟩
end

/-! ### a form of one's own: new lists throughout, no list twice -/
abbrev Tri := Addr × Addr × Addr
def inner (L : List Tri) : List Addr := L.flatMap fun x => [x.2.1, x.2.2]
structure NewL (H0 H : Hp) (L : List Tri) (F : Form) : Prop where
  at_ : Paired (fun (x : Tri) (s : Std) => H x.1 = some (.tup [.ref x.2.1, .ref x.2.2]) ∧ WordAt H x.2.1 s.1 ∧ WaysAt H x.2.2 s.2) L F
  new : ∀ x ∈ L, Fresh H0 x.1 ∧ Fresh H0 x.2.1 ∧ Fresh H0 x.2.2
  nd : (inner L).Nodup
structure NewF (H0 H : Hp) (p : Addr) (L : List Tri) (F : Form) : Prop where
  lst : H p = some (.lst (L.map fun x => V.ref x.1))
  all : NewL H0 H L F
  new : Fresh H0 p
  out : p ∉ inner L
section
variable {T : List (Addr × Str)} {H0 H H' : Hp} {L : List Tri} {F : Form} {p t a b : Addr} {s : Std}
theorem NewL.nil : NewL H0 H [] [] := ⟨.nil, (fun _ h => nomatch h), List.nodup_nil⟩
theorem NewL.ext (n : NewL H0 H L F) (e : Ext T H H') : NewL H0 H' L F :=
  ⟨L2.Paired.mapP n.at_ fun _ _ h => ⟨e.tup h.1, e.word h.2.1, e.ways h.2.2⟩, n.new, n.nd⟩
theorem NewL.same (n : NewL H0 H L F) (e : Same H H') : NewL H0 H' L F := n.ext (Ext.of (T := []) e)
theorem NewF.ext (n : NewF H0 H p L F) (e : Ext T H H') : NewF H0 H' p L F := ⟨e.lst n.lst, n.all.ext e, n.new, n.out⟩
theorem NewF.same (n : NewF H0 H p L F) (e : Same H H') : NewF H0 H' p L F := n.ext (Ext.of (T := []) e)
theorem NewL.old {H1 : Hp} (n : NewL H H' L F) (e : Ext T H1 H) : NewL H1 H' L F := ⟨n.at_, fun x hx => ⟨e.fresh (n.new x hx).1, e.fresh (n.new x hx).2.1, e.fresh (n.new x hx).2.2⟩, n.nd⟩
theorem NewF.old {H1 : Hp} (n : NewF H H' p L F) (e : Ext T H1 H) : NewF H1 H' p L F := ⟨n.lst, n.all.old e, e.fresh n.new, n.out⟩
theorem mem_inner {q : Addr} (h : q ∈ inner L) : ∃ x ∈ L, q = x.2.1 ∨ q = x.2.2 := by
  obtain ⟨x, hx, hq⟩ := List.mem_flatMap.mp h
  refine ⟨x, hx, ?_⟩
  simpa using hq
theorem NewL.there (n : NewL H0 H L F) {q : Addr} (h : q ∈ inner L) : ∃ xs, H q = some (.lst xs) := by
  obtain ⟨x, hx, hq⟩ := mem_inner h
  obtain ⟨i, hi, e⟩ := List.mem_iff_getElem.mp hx
  obtain ⟨s, _, h1, h2, h3⟩ := paired_get' n.at_ (show L[i]? = some x by rw [List.getElem?_eq_getElem hi, e])
  rcases hq with rfl | rfl
  · exact ⟨_, h2⟩
  · exact ⟨_, h3⟩
theorem inner_append (L M : List Tri) : inner (L ++ M) = inner L ++ inner M := List.flatMap_append
theorem NewL.snoc (n : NewL H0 H L F) (e : Same H H') (ha : H a = none) (hb : H b = none) (hab : a ≠ b) (h1 : H' t = some (.tup [.ref a, .ref b])) (h2 : WordAt H' a s.1) (h3 : WaysAt H' b s.2) (f1 : Fresh H0 t) (f2 : Fresh H0 a) (f3 : Fresh H0 b) :
    NewL H0 H' (L ++ [(t, a, b)]) (F ++ [s]) := by
  refine ⟨Paired.snoc (n.same e).at_ ⟨h1, h2, h3⟩, fun x hx => ?_, ?_⟩
  · rcases List.mem_append.mp hx with hx | hx
    · exact n.new x hx
    · rw [List.mem_singleton.mp hx]
      exact ⟨f1, f2, f3⟩
  · rw [inner_append, List.nodup_append]
    refine ⟨n.nd, ?_, fun x hx y hy => ?_⟩
    · show [a, b].Nodup
      simp [hab]
    · obtain ⟨xs, hxs⟩ := n.there hx
      have hy : y = a ∨ y = b := by simpa [inner] using hy
      rcases hy with rfl | rfl
      · exact ne_of_none hxs ha
      · exact ne_of_none hxs hb
theorem NewL.form (n : NewL H0 H L F) (h : H p = some (.lst (L.map fun x => V.ref x.1))) : FormAt H p F := by
  refine ⟨L.map (·.1), by rw [List.map_map]; exact h, ?_⟩
  have e := n.at_
  clear h n
  induction e with
  | nil => exact .nil
  | cons h _ ih => exact .cons ⟨_, _, h.1, h.2.1, h.2.2⟩ ih
theorem NewF.form (n : NewF H0 H p L F) : FormAt H p F := n.all.form n.lst
theorem NewL.len (n : NewL H0 H L F) : L.length = F.length := Paired.length n.at_
theorem NewF.mk' (n : NewL H0 H L F) (h : H p = some (.lst (L.map fun x => V.ref x.1))) (f : Fresh H0 p) (o : p ∉ inner L) : NewF H0 H p L F := ⟨h, n, f, o⟩
/-- its k-th standing -/
theorem NewL.get (n : NewL H0 H L F) {k : Nat} (e : F[k]? = some s) : ∃ x : Tri, L[k]? = some x ∧ H x.1 = some (.tup [.ref x.2.1, .ref x.2.2]) ∧ WordAt H x.2.1 s.1 ∧ WaysAt H x.2.2 s.2 := paired_get n.at_ e
/-- another list is written -/
theorem paired_mem {α β : Type} {R S : α → β → Prop} : ∀ {l : List α} {m : List β}, Paired R l m → (∀ a b, a ∈ l → R a b → S a b) → Paired S l m
  | _, _, .nil, _ => .nil
  | _, _, .cons h t, f => .cons (f _ _ List.mem_cons_self h) (paired_mem t fun a b ha hr => f a b (List.mem_cons_of_mem _ ha) hr)
theorem NewL.upd {xs ys : List V} (n : NewL H0 H L F) (h : H p = some (.lst xs)) (o : p ∉ inner L) : NewL H0 (upd H p (.lst ys)) L F := by
  refine ⟨paired_mem n.at_ fun x s hx r => ?_, n.new, n.nd⟩
  have h1 : x.2.1 ≠ p := fun e => o (List.mem_flatMap.mpr ⟨x, hx, by simp [e]⟩)
  have h2 : x.2.2 ≠ p := fun e => o (List.mem_flatMap.mpr ⟨x, hx, by simp [e]⟩)
  exact ⟨(upd_ne (ne_of r.1 h (fun z => nomatch z))).trans r.1, Eq.trans (upd_ne h1) r.2.1, Eq.trans (upd_ne h2) r.2.2⟩
theorem NewL.updD {kvs : List (Key × V)} {u : HO} (n : NewL H0 H L F) (h : H p = some (.dK kvs)) : NewL H0 (L2.upd H p u) L F := by
  refine ⟨paired_mem n.at_ fun x s hx r => ?_, n.new, n.nd⟩
  exact ⟨(upd_ne (ne_of r.1 h (fun z => nomatch z))).trans r.1, Eq.trans (upd_ne (ne_of r.2.1 h (fun z => nomatch z))) r.2.1, Eq.trans (upd_ne (ne_of r.2.2 h (fun z => nomatch z))) r.2.2⟩
theorem not_inner_snoc (o : p ∉ inner L) (ha : p ≠ a) (hb : p ≠ b) : p ∉ inner (L ++ [(t, a, b)]) := by
  rw [inner_append]
  simp [inner] at o ⊢
  exact ⟨o, ha, hb⟩
/-- the ways of one standing are written anew -/
theorem NewL.setWays : ∀ {L : List Tri} {F : Form} {k : Nat} {x : Tri} {s : Std} {ws : Ways}, NewL H0 H L F → L[k]? = some x → F[k]? = some s → NewL H0 (L2.upd H x.2.2 (.lst (vWs ws))) L (F.set k (s.1, ws))
  | [], _, k, _, _, _, _, e, _ => by simp at e
  | y :: L, [], k, _, _, _, _, _, e => by simp at e
  | y :: L, f :: F, 0, x, s, ws, n, e1, e2 => by
    simp at e1 e2
    subst e1 e2
    obtain ⟨p, nw, nd⟩ := n
    cases p with
    | cons h t =>
      have nd' : (y.2.1 :: y.2.2 :: inner L).Nodup := nd
      rw [List.nodup_cons, List.nodup_cons] at nd'
      obtain ⟨d1, d2, d3⟩ := nd'
      have rest := NewL.upd (p := y.2.2) (ys := vWs ws) ⟨t, fun z hz => nw z (List.mem_cons_of_mem _ hz), d3⟩ h.2.2 d2
      refine ⟨?_, nw, nd⟩
      rw [List.set_cons_zero]
      exact .cons ⟨(upd_ne (ne_of h.1 h.2.2 (fun z => nomatch z))).trans h.1, Eq.trans (upd_ne fun z => d1 (by rw [z]; exact List.mem_cons_self)) h.2.1, upd_same⟩ rest.at_
  | y :: L, f :: F, k + 1, x, s, ws, n, e1, e2 => by
    rw [List.getElem?_cons_succ] at e1 e2
    obtain ⟨p, nw, nd⟩ := n
    cases p with
    | cons h t =>
      have nd' : (y.2.1 :: y.2.2 :: inner L).Nodup := nd
      rw [List.nodup_cons, List.nodup_cons] at nd'
      obtain ⟨d1, d2, d3⟩ := nd'
      have n' : NewL H0 H L F := ⟨t, fun z hz => nw z (List.mem_cons_of_mem _ hz), d3⟩
      have rest := NewL.setWays (ws := ws) n' e1 e2
      obtain ⟨z, hz, hz1, hz2, hz3⟩ := n'.get e2
      rw [e1] at hz
      cases hz
      have hx : x.2.2 ∈ inner L := List.mem_flatMap.mpr ⟨x, List.mem_of_getElem? e1, by simp⟩
      refine ⟨?_, nw, nd⟩
      rw [List.set_cons_succ]
      exact .cons ⟨(upd_ne (ne_of h.1 hz3 (fun z => nomatch z))).trans h.1, Eq.trans (upd_ne fun z => d1 (by rw [z]; exact List.mem_cons_of_mem _ hx)) h.2.1, Eq.trans (upd_ne fun z => d2 (by rw [z]; exact hx)) h.2.2⟩ rest.at_
end

/-! ### words compared -/
def txts (w : Word) : List PyData := w.map .str
theorem dpAll_word (K : PySem.W.Frag) (H : Hp) : ∀ w : Word, DpAll K H (vS w) (txts w)
  | [] => .nil
  | _ :: w => .cons (.str _) (dpAll_word K H w)
theorem dp_word {K : PySem.W.Frag} {H : Hp} {a : Addr} {w : Word} (h : WordAt H a w) : Dp K H (.ref a) (.list (txts w)) := .lst (SqL.of h) (dpAll_word K H w)
theorem eqvAll_txts : ∀ v w : Word, PyData.eqvAll (txts v) (txts w) = decide (v = w)
  | [], [] => rfl
  | [], _ :: _ => rfl
  | _ :: _, [] => rfl
  | x :: v, y :: w => by
    show (x == y && PyData.eqvAll (txts v) (txts w)) = _
    rw [eqvAll_txts v w]
    by_cases h : x = y
    · subst h
      by_cases h2 : v = w <;> simp [h2]
    · simp [h]
theorem layAll_txts : ∀ w : Word, (∀ t ∈ w, PyData.strOk t = true) → PyData.canLayAll0 (txts w) = true
  | [], _ => rfl
  | x :: w, h => by
    show (PyData.strOk x && PyData.canLayAll0 (txts w)) = true
    rw [h x List.mem_cons_self, layAll_txts w fun t ht => h t (List.mem_cons_of_mem _ ht)]
    rfl
theorem depthAll_txts : ∀ w : Word, PyData.depthAll (txts w) = 0
  | [] => rfl
  | x :: w => by
    show max 0 (PyData.depthAll (txts w)) = 0
    rw [depthAll_txts w]
    rfl
theorem shaped_word {w : Word} (h : ∀ t ∈ w, PyData.strOk t = true) : SeqAt.shaped (.list (txts w)) = true := by
  unfold SeqAt.shaped
  rw [Bool.and_eq_true]
  refine ⟨layAll_txts w h, decide_eq_true ?_⟩
  show PyData.depthAll (txts w) + 1 ≤ 64
  rw [depthAll_txts]
  decide
theorem eq_words {K : PySem.W.Frag} {H : Hp} {a b : Addr} {v w : Word} {Q : VK} (hv : WordAt H a v) (hw : WordAt H b w) (ov : ∀ t ∈ v, PyData.strOk t = true) (ow : ∀ t ∈ w, PyData.strOk t = true) (q : Q (.bl (decide (v = w))) H) : rEqD K (.ref a) (.ref b) H Q :=
  ⟨_, _, dp_word hv, dp_word hw, shaped_word ov, shaped_word ow, by
    show Q (.bl (PyData.eqvAll (txts v) (txts w))) H
    rw [eqvAll_txts]
    exact q⟩
theorem ne_words {K : PySem.W.Frag} {H : Hp} {a b : Addr} {v w : Word} {Q : VK} (hv : WordAt H a v) (hw : WordAt H b w) (ov : ∀ t ∈ v, PyData.strOk t = true) (ow : ∀ t ∈ w, PyData.strOk t = true) (q : Q (.bl (!decide (v = w))) H) : rNeD K (.ref a) (.ref b) H Q :=
  ⟨_, _, dp_word hv, dp_word hw, shaped_word ov, shaped_word ow, by
    show Q (.bl (!PyData.eqvAll (txts v) (txts w))) H
    rw [eqvAll_txts]
    exact q⟩

/-! ### a def whose code object is told -/
structure FunC (K : PySem.W.Frag) (x qual : Str) (st : Stmt) (f : Addr) (fd : FuncData) (c : Addr) : Prop where
  ex : ∃ (oc : Value) (od : Option Addr) (kV doc pm : Value) (an : Option Addr) (ct : Value) (osl : Array (Option Value)),
    fd = PySem.W.fnOf x qual (defArgs st) (defBody st) (defScope st) .none kV doc pm an (.ref c) ct ∧ K.lookup f = some ⟨oc, od, .func fd, osl⟩ ∧ PySem.W.codeIn K (.ref c) qual = true
theorem FunC.ok {P : Program} {w : World} {K : PySem.W.Frag} {mg : Str → Option Value} {base : Heap} {x qual : Str} {st : Stmt} {f c : Addr} {fd : FuncData} {N ps : List Str} {k : Nat} {sp : Sp} (F : FunC K x qual st f fd c) (S : FnScope N ps (defScope st)) (len : ∀ vs H Q E, sp vs H Q E → vs.length = ps.length)
    (hbody : ∀ (A : Around) (outer : List Env) (s : Shared) (H : Hp) (vs : List V) (Q : VK) (E : XK), Room k (A.deeper (envOfC qual (defScope st) s.heap.objs.size f (.ref c))) → sp vs H Q E →
      ∃ t, PSs (cxOf CX0 P w K mg base N qual (defScope st) f (.ref c) A outer s H E).nox (defBody st) t ∧ t { nx := fun _ H' => Q .non H', rt := Q } (L2.start N vs) H) : FnOk P w K mg base CX0 (k + 1) f fd ps sp := by
  obtain ⟨oc, od, kV, doc, pm, an, ct, osl, rfl, lk, hcd⟩ := F.ex
  exact fn_of lk hcd S len fun A outer s H vs Q E hr hsp => by
    obtain ⟨t, h, q⟩ := hbody A outer s H vs Q E hr hsp
    exact ⟨t, h.nox, q⟩
end QB
end

section
set_option linter.all false
set_option autoImplicit false
/-! mirrors: plain functions over words and standings -/
namespace QM
open PySem QB

def ixOf (tags : List Str) (t : Str) : Nat := tags.idxOf t
/-- the way of a standing for a tag -/
def way (tags : List Str) (s : Std) (t : Str) : Option Nat := (s.2[ixOf tags t]?).join
def wayAt (tags : List Str) (F : Form) (at_ : Nat) (t : Str) : Option Nat := (F[at_]?).bind fun s => way tags s t
def walkFrom (tags : List Str) (F : Form) : Nat → Nat → Word → Nat × Nat
  | at_, k, [] => (at_, k)
  | at_, k, t :: w => match wayAt tags F at_ t with
    | none => (at_, k)
    | some b => walkFrom tags F b (k + 1) w
def walk (tags : List Str) (F : Form) (w : Word) : Nat × Nat := walkFrom tags F 0 0 w
def wordOf (F : Form) (k : Nat) : Word := ((F[k]?).map (·.1)).getD []
def make (tags : List Str) (F : Form) (w : Word) : Word := wordOf F (walk tags F w).1 ++ w.drop (walk tags F w).2

structure Good (tags : List Str) (F : Form) : Prop where
  pos : 0 < F.length
  len : ∀ s ∈ F, s.2.length = tags.length
  to : ∀ s ∈ F, ∀ n, some n ∈ s.2 → n < F.length
  small : F.length ≤ 5000
theorem Good.way_lt {tags : List Str} {F : Form} (g : Good tags F) {s : Std} (hs : s ∈ F) {k n : Nat} (h : s.2[k]? = some (some n)) : n < F.length := g.to s hs n (List.mem_of_getElem? h)
theorem mem_of {F : Form} {k : Nat} {s : Std} (h : F[k]? = some s) : s ∈ F := List.mem_of_getElem? h
theorem Good.ways {tags : List Str} {F : Form} (g : Good tags F) {k : Nat} {s : Std} (h : F[k]? = some s) : s.2.length = tags.length := g.len s (mem_of h)
/-- the way of a standing for one of the tags -/
theorem Good.way {tags : List Str} {F : Form} (g : Good tags F) {k : Nat} {s : Std} {t : Str} (h : F[k]? = some s) (ht : t ∈ tags) : s.2[tags.idxOf t]? = some (way tags s t) := by
  have hlt : tags.idxOf t < s.2.length := by rw [g.ways h]; exact List.idxOf_lt_length_of_mem ht
  unfold QM.way ixOf
  rw [List.getElem?_eq_getElem hlt]
  rfl
theorem wayAt_of {tags : List Str} {F : Form} {k : Nat} {s : Std} {t : Str} (h : F[k]? = some s) : wayAt tags F k t = way tags s t := by
  unfold wayAt
  rw [h]
  rfl
theorem Good.wayLt {tags : List Str} {F : Form} (g : Good tags F) {k n : Nat} {s : Std} {t : Str} (h : F[k]? = some s) (ht : t ∈ tags) (e : QM.way tags s t = some n) : n < F.length := by
  have q := g.way h ht
  rw [e] at q
  exact g.way_lt (mem_of h) q
theorem wordOf_of {F : Form} {k : Nat} {s : Std} (h : F[k]? = some s) : wordOf F k = s.1 := by
  unfold wordOf
  rw [h]
  rfl
theorem walkFrom_lt {tags : List Str} {F : Form} (g : Good tags F) : ∀ (w : Word) (at_ k : Nat), at_ < F.length → (∀ t ∈ w, t ∈ tags) → (walkFrom tags F at_ k w).1 < F.length ∧ k ≤ (walkFrom tags F at_ k w).2 ∧ (walkFrom tags F at_ k w).2 ≤ k + w.length
  | [], at_, k, h, _ => ⟨h, Nat.le_refl _, Nat.le_refl _⟩
  | t :: w, at_, k, h, ht => by
    unfold walkFrom
    cases e : wayAt tags F at_ t with
    | none => exact ⟨h, Nat.le_refl _, Nat.le_add_right _ _⟩
    | some b =>
      have hF : F[at_]? = some F[at_] := by simp [h]
      have hb : b < F.length := g.wayLt hF (ht t List.mem_cons_self) (by rw [← wayAt_of hF]; exact e)
      obtain ⟨h1, h2, h3⟩ := walkFrom_lt g w b (k + 1) hb fun x hx => ht x (List.mem_cons_of_mem _ hx)
      show (walkFrom tags F b (k + 1) w).1 < F.length ∧ k ≤ (walkFrom tags F b (k + 1) w).2 ∧ (walkFrom tags F b (k + 1) w).2 ≤ k + (t :: w).length
      rw [List.length_cons]
      exact ⟨h1, by omega, by omega⟩
theorem walk_lt {tags : List Str} {F : Form} (g : Good tags F) {w : Word} (h : ∀ t ∈ w, t ∈ tags) : (walk tags F w).1 < F.length ∧ (walk tags F w).2 ≤ w.length := by
  obtain ⟨h1, _, h3⟩ := walkFrom_lt g w 0 0 g.pos h
  exact ⟨h1, by rw [Nat.zero_add] at h3; exact h3⟩

/-! ### classes of standings -/
open L2 in
def wayNum (cs : List Nat) : Option Nat → NestedKey
  | none => .num (-1)
  | some n => .num ((cs.getD n 0 : Nat) : Int)
def partKey (cs : List Nat) (p : Nat × Std) : NestedKey := .tup [.num (p.1 : Int), .tup (p.2.2.map (wayNum cs))]
def partKeys (cs : List Nat) (F : Form) : List NestedKey := (cs.zip F).map (partKey cs)
def part (cs : List Nat) (F : Form) : List Nat := QD.numb (partKeys cs F)
def wordKey (s : Std) : NestedKey := .tup (s.1.map .text)
def wordKeys (F : Form) : List NestedKey := F.map wordKey
def maxOf (cs : List Nat) : Nat := cs.foldl max 0
def alikeLoop (F : Form) : Nat → Nat → List Nat → List Nat
  | 0, _, cs => cs
  | f + 1, many, cs => if many ≤ maxOf cs then alikeLoop F f (maxOf cs + 1) (part cs F) else cs
def alike (F : Form) : List Nat := alikeLoop F (F.length + 1) 0 (QD.numb (wordKeys F))

theorem partKeys_len {cs : List Nat} {F : Form} (h : cs.length = F.length) : (partKeys cs F).length = F.length := by
  unfold partKeys
  rw [List.length_map, List.length_zip, h, Nat.min_self]
theorem part_len {cs : List Nat} {F : Form} (h : cs.length = F.length) : (part cs F).length = F.length := by
  unfold part
  rw [QD.numb_len, partKeys_len h]
theorem maxOf_le : ∀ (cs : List Nat) (a b : Nat), cs.foldl max a ≤ b ↔ a ≤ b ∧ ∀ x ∈ cs, x ≤ b
  | [], a, b => by simp
  | c :: cs, a, b => by
    rw [List.foldl_cons, maxOf_le cs (max a c) b]
    constructor
    · rintro ⟨h1, h2⟩
      refine ⟨by omega, fun x hx => ?_⟩
      rcases List.mem_cons.mp hx with rfl | hx
      · omega
      · exact h2 x hx
    · rintro ⟨h1, h2⟩
      have := h2 c List.mem_cons_self
      exact ⟨by omega, fun x hx => h2 x (List.mem_cons_of_mem _ hx)⟩
theorem le_maxOf {cs : List Nat} {x : Nat} (h : x ∈ cs) : x ≤ maxOf cs := ((maxOf_le cs 0 _).mp (Nat.le_refl _)).2 x h
theorem maxOf_eq {cs : List Nat} {m : Nat} (h : m ∈ cs) (hm : ∀ x ∈ cs, x ≤ m) : maxOf cs = m :=
  Nat.le_antisymm ((maxOf_le cs 0 m).mpr ⟨Nat.zero_le _, hm⟩) (le_maxOf h)
theorem numb_lt {α : Type} [DecidableEq α] {ms : List α} {x : Nat} (h : x ∈ QD.numb ms) : x < (QD.seenOf ms).length := by
  obtain ⟨m, hm, rfl⟩ := List.mem_map.mp h
  exact List.idxOf_lt_length_of_mem ((QD.mem_seenOf ms m).mpr hm)
theorem numb_lt' {α : Type} [DecidableEq α] {ms : List α} {x : Nat} (h : x ∈ QD.numb ms) : x < ms.length := Nat.lt_of_lt_of_le (numb_lt h) (QD.seenOf_len ms)

/-! ### the order in which standings are met -/
def clsOf (cs : List Nat) (n : Nat) : Nat := cs.getD n 0
def visit (cs : List Nat) (met : List Nat) : Option Nat → List Nat
  | none => met
  | some n => if clsOf cs n ∈ met.map (clsOf cs) then met else met ++ [n]
def visitAll (cs : List Nat) (met : List Nat) (ws : Ways) : List Nat := ws.foldl (visit cs) met
def newWay (cs met : List Nat) (w : Option Nat) : Option Nat := w.map fun n => (met.map (clsOf cs)).idxOf (clsOf cs n)
def newStd (cs met : List Nat) (s : Std) : Std := (s.1, s.2.map (newWay cs met))
def stdOf (F : Form) (k : Nat) : Std := F.getD k ([], [])
def orderLoop (F : Form) (cs : List Nat) : Nat → List Nat → Form → Form
  | 0, _, told => told
  | f + 1, met, told => if told.length < met.length then
      orderLoop F cs f (visitAll cs met (stdOf F (met.getD told.length 0)).2) (told ++ [newStd cs (visitAll cs met (stdOf F (met.getD told.length 0)).2) (stdOf F (met.getD told.length 0))])
    else told
def inOrder (F : Form) (cs : List Nat) : Form := orderLoop F cs (F.length + 1) [0] []
theorem stdOf_get {F : Form} {k : Nat} (h : k < F.length) : F[k]? = some (stdOf F k) := by
  unfold stdOf
  rw [List.getD_eq_getElem?_getD, List.getElem?_eq_getElem h]
  rfl
theorem nodup_le : ∀ (n : Nat) (l : List Nat), l.Nodup → (∀ x ∈ l, x < n) → l.length ≤ n
  | 0, l, _, h => by
    cases l with
    | nil => exact Nat.le_refl _
    | cons x l => exact absurd (h x List.mem_cons_self) (Nat.not_lt_zero _)
  | n + 1, l, nd, h => by
    have h1 := nodup_le n (l.erase n) (nd.erase n) fun x hx => by
      have hx' := List.mem_of_mem_erase hx
      have h2 := h x hx'
      have h3 : x ≠ n := fun e => by
        rw [e] at hx
        exact nd.not_mem_erase hx
      omega
    have h4 : l.length ≤ (l.erase n).length + 1 := by
      rw [List.length_erase]
      split <;> omega
    omega
/-- what holds of the met ones -/
structure Met (F : Form) (cs met : List Nat) : Prop where
  nd : (met.map (clsOf cs)).Nodup
  lt : ∀ m ∈ met, m < F.length
theorem Met.len {F : Form} {cs met : List Nat} (h : Met F cs met) : met.length ≤ F.length :=
  nodup_le _ _ ((List.pairwise_map.mp h.nd).imp fun h e => h (congrArg _ e)) h.lt
theorem Met.visit {F : Form} {cs met : List Nat} (h : Met F cs met) {w : Option Nat} (hw : ∀ n, w = some n → n < F.length) : Met F cs (visit cs met w) := by
  cases w with
  | none => exact h
  | some n =>
    unfold QM.visit
    show Met F cs (if clsOf cs n ∈ met.map (clsOf cs) then met else met ++ [n])
    by_cases hm : clsOf cs n ∈ met.map (clsOf cs)
    · rw [if_pos hm]
      exact h
    · rw [if_neg hm]
      refine ⟨?_, fun m hm' => ?_⟩
      · rw [List.map_append, List.nodup_append]
        exact ⟨h.nd, by simp, fun a ha b hb => by rw [List.mem_singleton.mp hb]; exact fun e => hm (e ▸ ha)⟩
      · rcases List.mem_append.mp hm' with q | q
        · exact h.lt m q
        · rw [List.mem_singleton.mp q]
          exact hw n rfl
theorem visit_pre (cs met : List Nat) (w : Option Nat) : ∃ t, visit cs met w = met ++ t := by
  cases w with
  | none => exact ⟨[], by simp [visit]⟩
  | some n =>
    by_cases h : clsOf cs n ∈ met.map (clsOf cs)
    · exact ⟨[], by simp [visit, h]⟩
    · exact ⟨[n], by simp [visit, h]⟩
theorem visitAll_pre (cs : List Nat) : ∀ (ws : Ways) (met : List Nat), ∃ t, visitAll cs met ws = met ++ t
  | [], met => ⟨[], by simp [visitAll]⟩
  | w :: ws, met => by
    obtain ⟨t, e⟩ := visit_pre cs met w
    obtain ⟨t2, e2⟩ := visitAll_pre cs ws (visit cs met w)
    refine ⟨t ++ t2, ?_⟩
    show visitAll cs (visit cs met w) ws = _
    rw [e2, e, List.append_assoc]
theorem visit_has (cs met : List Nat) (n : Nat) : clsOf cs n ∈ (visit cs met (some n)).map (clsOf cs) := by
  by_cases h : clsOf cs n ∈ met.map (clsOf cs)
  · simpa [visit, h] using h
  · simp [visit, h]
theorem visitAll_has (cs : List Nat) : ∀ (ws : Ways) (met : List Nat) (n : Nat), some n ∈ ws → clsOf cs n ∈ (visitAll cs met ws).map (clsOf cs)
  | w :: ws, met, n, h => by
    rcases List.mem_cons.mp h with e | h
    · obtain ⟨t, e2⟩ := visitAll_pre cs ws (visit cs met w)
      show _ ∈ (visitAll cs (visit cs met w) ws).map _
      rw [e2, List.map_append]
      exact List.mem_append_left _ (by rw [← e]; exact visit_has cs met n)
    · exact visitAll_has cs ws (visit cs met w) n h
theorem Met.visitAll {F : Form} {cs : List Nat} : ∀ {ws : Ways} {met : List Nat}, Met F cs met → (∀ n, some n ∈ ws → n < F.length) → Met F cs (visitAll cs met ws)
  | [], _, h, _ => h
  | w :: ws, met, h, hw => Met.visitAll (ws := ws) (met := QM.visit cs met w) (h.visit fun n e => hw n (by rw [e]; exact List.mem_cons_self)) fun n hn => hw n (List.mem_cons_of_mem _ hn)

/-! ### needless ways -/
def isNeedless (F : Form) (S : List Bool) (word : Word) (t : Str) (n : Nat) : Bool := S.getD n false && decide ((stdOf F n).1 = word ++ [t])
def pruneWay (F : Form) (S : List Bool) (word : Word) (t : Str) : Option Nat → Option Nat
  | none => none
  | some n => if isNeedless F S word t n = true then none else some n
def pruneWays (tags : List Str) (F : Form) (S : List Bool) (s : Std) : Ways := (tags.zip s.2).map fun p => pruneWay F S s.1 p.1 p.2
def pruneStd (tags : List Str) (F : Form) (S : List Bool) (s : Std) : Std := (s.1, pruneWays tags F S s)
def needStep (tags : List Str) (F : Form) (st : Form × List Bool) (k : Nat) : Form × List Bool :=
  (st.1.set k (pruneStd tags F st.2 (stdOf st.1 k)), st.2.set k ((pruneWays tags F st.2 (stdOf st.1 k)).all Option.isNone))
def keyOf (F : Form) (k : Nat) : Int := -((stdOf F k).1.length : Int)
def byLen (F : Form) : List Nat := (List.range F.length).mergeSort fun i j => decide (keyOf F i ≤ keyOf F j)
def needFold (tags : List Str) (F : Form) (ks : List Nat) : Form × List Bool := ks.foldl (needStep tags F) (F, List.replicate F.length false)
def needless (tags : List Str) (F : Form) : Form := (needFold tags F (byLen F)).1
def least (tags : List Str) (F : Form) : Form := inOrder (needless tags F) (alike (needless tags F))

theorem pruneWays_len {tags : List Str} {F : Form} {S : List Bool} {s : Std} (h : s.2.length = tags.length) : (pruneWays tags F S s).length = tags.length := by
  unfold pruneWays
  rw [List.length_map, List.length_zip, h, Nat.min_self]
theorem pruneWays_get {tags : List Str} {F : Form} {S : List Bool} {s : Std} {k : Nat} {t : Str} {w : Option Nat} (ht : tags[k]? = some t) (hw : s.2[k]? = some w) : (pruneWays tags F S s)[k]? = some (pruneWay F S s.1 t w) := by
  have ez : (tags.zip s.2)[k]? = some (t, w) := by
    rw [List.getElem?_zip_eq_some]
    exact ⟨ht, hw⟩
  unfold pruneWays
  rw [List.getElem?_map, ez]
  rfl
theorem pruneWay_some {F : Form} {S : List Bool} {word : Word} {t : Str} {w : Option Nat} {n : Nat} (h : pruneWay F S word t w = some n) : w = some n := by
  cases w with
  | none => cases h
  | some m =>
    have h : (if isNeedless F S word t m = true then none else some m) = some n := h
    by_cases e : isNeedless F S word t m = true
    · rw [if_pos e] at h
      cases h
    · rw [if_neg e] at h
      exact h
theorem pruneWays_some {tags : List Str} {F : Form} {S : List Bool} {s : Std} {n : Nat} (h : some n ∈ pruneWays tags F S s) : some n ∈ s.2 := by
  obtain ⟨p, hp, e⟩ := List.mem_map.mp h
  rw [← pruneWay_some e]
  exact (List.of_mem_zip hp).2
/-- what stays through the steps -/
structure Pruned (tags : List Str) (F : Form) (st : Form × List Bool) : Prop where
  len : st.1.length = F.length
  lenS : st.2.length = F.length
  word : ∀ k s, st.1[k]? = some s → s.1 = (stdOf F k).1 ∧ s.2.length = (stdOf F k).2.length ∧ ∀ n, some n ∈ s.2 → some n ∈ (stdOf F k).2
theorem Pruned.start (tags : List Str) (F : Form) : Pruned tags F (F, List.replicate F.length false) := by
  refine ⟨rfl, List.length_replicate, fun k s h => ?_⟩
  have hk : k < F.length := (List.getElem?_eq_some_iff.mp h).1
  have h : F[k]? = some s := h
  rw [stdOf_get hk] at h
  cases h
  exact ⟨rfl, rfl, fun n h => h⟩
theorem Pruned.step {tags : List Str} {F : Form} {st : Form × List Bool} (p : Pruned tags F st) (g : Good tags F) {k : Nat} (hk : k < F.length) : Pruned tags F (needStep tags F st k) := by
  have h1 : st.1[k]? = some (stdOf st.1 k) := stdOf_get (by rw [p.len]; exact hk)
  obtain ⟨w1, w2, w3⟩ := p.word k _ h1
  have gl : (stdOf F k).2.length = tags.length := g.ways (stdOf_get hk)
  refine ⟨by show (st.1.set k _).length = _; rw [List.length_set, p.len], by show (st.2.set k _).length = _; rw [List.length_set, p.lenS], fun j s hj => ?_⟩
  have hj : (st.1.set k (pruneStd tags F st.2 (stdOf st.1 k)))[j]? = some s := hj
  by_cases e : k = j
  · subst e
    rw [List.getElem?_set_self (by rw [p.len]; exact hk)] at hj
    cases hj
    refine ⟨w1, ?_, fun n hn => w3 n (pruneWays_some hn)⟩
    show (pruneWays tags F st.2 (stdOf st.1 k)).length = _
    rw [pruneWays_len (by rw [w2, gl]), gl]
  · rw [List.getElem?_set_ne e] at hj
    exact p.word j s hj
theorem Pruned.fold {tags : List Str} {F : Form} (g : Good tags F) : ∀ (ks : List Nat) (st : Form × List Bool), Pruned tags F st → (∀ k ∈ ks, k < F.length) → Pruned tags F (ks.foldl (needStep tags F) st)
  | [], _, p, _ => p
  | k :: ks, st, p, h => Pruned.fold g ks (needStep tags F st k) (p.step g (h k List.mem_cons_self)) fun j hj => h j (List.mem_cons_of_mem _ hj)
theorem byLen_lt {F : Form} {k : Nat} (h : k ∈ byLen F) : k < F.length := by
  unfold byLen at h
  rw [List.mem_mergeSort] at h
  exact List.mem_range.mp h
theorem byLen_len (F : Form) : (byLen F).length = F.length := by
  unfold byLen
  rw [List.length_mergeSort, List.length_range]
theorem mix_get {α : Type} {P Q : List α} {j : Nat} (h : P.length = Q.length) (hj : j < Q.length) : (P.take j ++ Q.drop j)[j]? = Q[j]? := by
  rw [List.getElem?_append_right (by rw [List.length_take]; omega), List.length_take, Nat.min_eq_left (by omega), Nat.sub_self, List.getElem?_drop, Nat.add_zero]
theorem mix_set {α : Type} {P Q : List α} {j : Nat} {x : α} (h : P.length = Q.length) (hj : P[j]? = some x) : (P.take j ++ Q.drop j).set j x = P.take (j + 1) ++ Q.drop (j + 1) := by
  have hj' : j < P.length := (List.getElem?_eq_some_iff.mp hj).1
  rw [List.set_append_right _ _ (by rw [List.length_take]; omega), List.length_take, Nat.min_eq_left (by omega), Nat.sub_self, List.take_succ, hj, List.drop_eq_getElem_cons (by omega : j < Q.length), List.set_cons_zero]
  simp
theorem mix_same {α : Type} {P Q : List α} {j : Nat} {x : α} (h : P.length = Q.length) (hj : P[j]? = some x) (hq : Q[j]? = some x) : P.take j ++ Q.drop j = P.take (j + 1) ++ Q.drop (j + 1) := by
  rw [← mix_set h hj]
  have hl : (P.take j ++ Q.drop j)[j]? = some x := by
    rw [mix_get h (List.getElem?_eq_some_iff.mp hq).1]
    exact hq
  refine List.ext_getElem? fun i => ?_
  by_cases e : j = i
  · subst e
    rw [List.getElem?_set_self (List.getElem?_eq_some_iff.mp hl).1, hl]
  · rw [List.getElem?_set_ne e]
end QM
end

section
set_option Elab.async false
set_option linter.all false
set_option maxRecDepth 100000
/-! Qown: len and == by the class's own methods, with any answer. -/
namespace QO
open PySem PySem.Spec PyProof.Rows L2
section
variable {X : Cx} {CX : CXT} {k : Nat} {f C : Addr} {fd : FuncData} {ps : List Str} {sp : Sp} {E : XK}
theorem run_in {A : Around} {pins : List (Addr × Obj)} {σ : L2.St} {H : Hp} {s : Shared} {Q : VK} {us : List Value} {vs : List V} (sb : Sub X k A) (F : FnOk X.prog X.w X.K X.mg X.base CX k f fd ps sp) (hb : Binds X.K fd ps []) (hx : Passes CX X E)
    (I : Inv X pins σ H s) (r : Vals vs us) (h : sp vs H Q E) : wpAny (model X.prog X.w) A (call (.ref f) us) (EP X pins σ Q) X.xe s := by
  have hl : us.length = ps.length := by rw [← r.length]; exact F.len _ _ _ _ h
  have e0 : Env0 X.prog X.w X.K X.mg X.base A X.stack s H := by
    have e := I.env0
    exact ⟨by rw [sb.fr]; exact e.frames, e.mod, e.bs, e.bsz, e.funs, e.frf, e.hok, e.bare⟩
  refine wpAny_call (codeAny_mono (F.run A X.stack s H ⟨us, []⟩ us vs Q E sb.room e0 (by
    have := hb s us I.kIn (by simpa using hl)
    simpa using this) r h) fun r s' hq => ?_)
  cases r with
  | error e => exact hx pins σ H s e s' I hq
  | ok fl =>
    cases fl with
    | ret u => exact I.after hq
    | next => exact False.elim hq
    | brk => exact False.elim hq
    | cont => exact False.elim hq
/-- len(x) by an own __len__ -/
def rLenO (C : Addr) (sp : Sp) (E : XK) : List V → Hp → VK → Prop := fun xs H Q => ∃ a dx fs, xs = [.ref a] ∧ H a = some (.ins C dx fs) ∧ sp [.ref a] H (fun v H' => ∃ n : Nat, v = .int (n : Int) ∧ n < sizeLine ∧ Q v H') E
theorem call_lenO (F : FnOk X.prog X.w X.K X.mg X.base CX k f fd ps sp) (hm : Meth X.K C "__len__" f) (hr : Room (k + 1) X.A) (hb : Binds X.K fd ps []) (hx : Passes CX X E) : CallR X (.builtin "len") (rLenO C sp E) := by
  intro pins s σ H xs us Q I r h
  obtain ⟨a, dx, fs, rfl, ha, h⟩ := h
  obtain ⟨u, rfl, ru⟩ := vals1 r
  cases ru
  obtain ⟨mA, J, _⟩ := ins_get I.hok ha
  obtain ⟨od, J, _⟩ := J.look
  obtain ⟨m, hF⟩ := I.fr
  refine PySem.W.len_K hF I.ok.mod.kin J hm.at_ hm.fn ?_
  refine wpAny_mono (run_in (A := X.A.in1) (vs := [.ref a]) ⟨hr.in1, rfl⟩ F hb hx I (.cons rfl .nil) h) (fun v s' q => ?_) fun _ _ x => x
  obtain ⟨v', H', I', rv, n, rfl, hn, q⟩ := q
  obtain ⟨t, rfl⟩ := (show ∃ t, v = Value.int (n : Int) t from rv)
  have hs : sizeLine = 16777216 := sizeLine_eq
  exact ⟨⟨by omega, by omega⟩, .int (n : Int), H', I'.tok _, ⟨_, rfl⟩, q⟩
/-- x == y by an own __eq__ -/
def rEqO (K : PySem.W.Frag) (C : Addr) (sp : Sp) (E : XK) : R2 := fun x y H Q => ∃ a dx fs t, x = .ref a ∧ H a = some (.ins C dx fs) ∧ TyOf K H y t ∧ PySem.W.notFirst K C t = true ∧ sp [.ref a, y] H (fun v H' => ∃ b : Bool, v = .bl b ∧ Q v H') E
theorem looks_ty {pins : List (Addr × Obj)} {σ : L2.St} {H : Hp} {s : Shared} {x : V} {u t : Value} (I : Inv X pins σ H s) (rx : RelV x u) (ty : TyOf X.K H x t) : PySem.W.Looks (model X.prog X.w) s.heap (typeOf u) t := by
  have ob : ∀ {a : Addr} {o : Obj}, s.heap.get? a = some o → PySem.W.Looks (model X.prog X.w) s.heap (typeOf (.ref a)) o.cls := fun e => PySem.W.Looks.ld e |>.andThen (PySem.W.Looks.now)
  cases ty with
  | non => cases (show u = Value.none from rx); exact PySem.W.Looks.of_pure rfl
  | bl y => cases (show u = Value.bool y from rx); exact PySem.W.Looks.of_pure rfl
  | int i => obtain ⟨t, q⟩ := (show ∃ t, u = Value.int i t from rx); cases q; exact PySem.W.Looks.of_pure rfl
  | str y => obtain ⟨t, q⟩ := (show ∃ t, u = Value.str y t from rx); cases q; exact PySem.W.Looks.of_pure rfl
  | flt y => obtain ⟨t, q⟩ := (show ∃ t, u = Value.float y t from rx); cases q; exact PySem.W.Looks.of_pure rfl
  | @lst a xs ea =>
    cases (show u = Value.ref a from rx)
    obtain ⟨_, _, n, _, h1⟩ := (show ObjOk X.prog X.w H s.heap a (.lst xs) from I.hok a _ ea)
    exact ob h1
  | @frz a ob' xs ea =>
    cases (show u = Value.ref a from rx)
    obtain ⟨_, _, _, n, _, h1⟩ := (show ObjOk X.prog X.w H s.heap a (.frz ob' (.lst xs)) from I.hok a _ ea)
    exact ob h1
  | @tup a xs ea =>
    cases (show u = Value.ref a from rx)
    obtain ⟨_, _, _, o, h1, h2, _⟩ := (show ObjOk X.prog X.w H s.heap a (.tup xs) from I.hok a _ ea)
    rw [← h2]
    exact ob h1
  | @dK a kvs ea =>
    cases (show u = Value.ref a from rx)
    obtain ⟨_, _, vs, _, o, es, ep, h1, h2, _⟩ := (show ObjOk X.prog X.w H s.heap a (.dK kvs) from I.hok a _ ea)
    rw [← h2.1]
    exact ob h1
  | @dT a kvs ea =>
    cases (show u = Value.ref a from rx)
    obtain ⟨_, _, xs, _, o, es, ep, h1, h2, _⟩ := (show ObjOk X.prog X.w H s.heap a (.dT kvs) from I.hok a _ ea)
    rw [← h2.1]
    exact ob h1
  | @ins a C dx fs ea cl ha hn htk hm =>
    cases (show u = Value.ref a from rx)
    obtain ⟨mA, O, _⟩ := ins_get I.hok ea
    obtain ⟨od, J, _⟩ := O.look
    exact J.type
theorem op_eqO (F : FnOk X.prog X.w X.K X.mg X.base CX k f fd ps sp) (hm : Meth X.K C "__eq__" f) (hr : Room k X.A) (hb : Binds X.K fd ps []) (hx : Passes CX X E) : OpR X (compareOp .Eq) (rEqO X.K C sp E) := by
  intro pins s σ H x y v u Q I rx ry h
  obtain ⟨a, dx, fs, t, rfl, ha, ht, hn, h⟩ := h
  cases rx
  obtain ⟨mA, J, _⟩ := ins_get I.hok ha
  obtain ⟨od, J, _⟩ := J.look
  obtain ⟨m, hF⟩ := I.fr
  show wpAny (model X.prog X.w) X.A (richCompare .Eq _ u) (EP X pins σ Q) X.xe s
  refine PySem.W.cmp_K (op := .Eq) hr.units0 hF I.ok.mod.kin J (looks_ty I ry ht) hn hm.at_ hm.fn ?_
  refine wpAny_mono (run_in (A := X.A) (vs := [.ref a, y]) ⟨hr, rfl⟩ F hb hx I (.cons rfl (.cons ry .nil)) h) (fun v s' q => ?_) fun _ _ x => x
  obtain ⟨v', H', I', rv, b, rfl, q⟩ := q
  cases rv
  exact ⟨.bl b, H', I', rfl, q⟩
/-- x in y by an own __contains__ -/
def rInO (C : Addr) (sp : Sp) (E : XK) (neg : Bool) : R2 := fun x y H Q => ∃ a dx fs, y = .ref a ∧ H a = some (.ins C dx fs) ∧ sp [.ref a, x] H (fun v H' => ∃ b : Bool, v = .bl b ∧ Q (.bl (if neg then !b else b)) H') E
theorem op_inO (F : FnOk X.prog X.w X.K X.mg X.base CX k f fd ps sp) (hm : Meth X.K C "__contains__" f) (hr : Room k X.A) (hb : Binds X.K fd ps []) (hx : Passes CX X E) : OpR X (compareOp .In) (rInO C sp E false) := by
  intro pins s σ H x y v u Q I rx ry h
  obtain ⟨a, dx, fs, rfl, ha, h⟩ := h
  cases ry
  obtain ⟨mA, J, _⟩ := ins_get I.hok ha
  obtain ⟨od, J, _⟩ := J.look
  obtain ⟨m, hF⟩ := I.fr
  refine PySem.W.in_K hF I.ok.mod.kin J hm.at_ hm.fn ?_
  refine wpAny_mono (run_in (A := X.A) (vs := [.ref a, x]) ⟨hr, rfl⟩ F hb hx I (.cons rfl (.cons rx .nil)) h) (fun v' s' q => ?_) fun _ _ x => x
  obtain ⟨z, H', I', rv, b, rfl, q⟩ := q
  cases rv
  exact wpAny_truthy_bool ⟨.bl b, H', I', rfl, q⟩
theorem op_notInO (F : FnOk X.prog X.w X.K X.mg X.base CX k f fd ps sp) (hm : Meth X.K C "__contains__" f) (hr : Room k X.A) (hb : Binds X.K fd ps []) (hx : Passes CX X E) : OpR X (compareOp .NotIn) (rInO C sp E true) := by
  intro pins s σ H x y v u Q I rx ry h
  obtain ⟨a, dx, fs, rfl, ha, h⟩ := h
  cases ry
  obtain ⟨mA, J, _⟩ := ins_get I.hok ha
  obtain ⟨od, J, _⟩ := J.look
  obtain ⟨m, hF⟩ := I.fr
  refine PySem.W.notIn_K hF I.ok.mod.kin J hm.at_ hm.fn ?_
  refine wpAny_mono (run_in (A := X.A) (vs := [.ref a, x]) ⟨hr, rfl⟩ F hb hx I (.cons rfl (.cons rx .nil)) h) (fun v' s' q => ?_) fun _ _ x => x
  obtain ⟨z, H', I', rv, b, rfl, q⟩ := q
  cases rv
  exact wpAny_truthy_bool ⟨.bl (!b), H', I', rfl, q⟩
end
/-- text * 0, text * 1 -/
theorem op_mul_str {X : Cx} : OpR X (binaryOp .Mult) (fun x y H Q => ∃ z, x = .str z ∧ ((y = .int 0 ∧ Q (.str Str.empty) H) ∨ (y = .int 1 ∧ Q (.str z) H))) := by
  intro pins s σ H x y v u Q I rx ry h
  obtain ⟨z, rfl, h⟩ := h
  obtain ⟨t, rfl⟩ := (show ∃ t, v = Value.str z t from rx)
  rcases h with ⟨rfl, q⟩ | ⟨rfl, q⟩
  · obtain ⟨t', rfl⟩ := (show ∃ t, u = Value.int 0 t from ry)
    exact PySem.P.mul_str_none (by decide) (by decide) ⟨.str Str.empty, H, I.tok _, ⟨_, rfl⟩, q⟩
  · obtain ⟨t', rfl⟩ := (show ∃ t, u = Value.int 1 t from ry)
    refine PySem.P.mul_str (by decide) (fun _ e => by simp at e) (fun _ e => by simp at e) ?_
    rw [if_neg (by decide), if_pos (by simp)]
    exact ⟨.str z, H, I, ⟨_, rfl⟩, q⟩
/-- xs.count(y), flat things -/
def rCount (K : PySem.W.Frag) : V → List V → Hp → VK → Prop := fun x xs H Q => ∃ (a : Addr) (ys : List V) (y : V), x = .ref a ∧ xs = [y] ∧ SqL K H a ys ∧ flatV y = true ∧ ys.all flatV = true ∧ Q (.int ((ys.countP fun z => eqV z y : Nat) : Int)) H
theorem count_eqU {y : V} : ∀ {ys : List V} {us : List Value}, Vals ys us → ys.all flatV = true → us.countP (eqU y) = ys.countP fun z => eqV z y
  | _, _, .nil, _ => rfl
  | z :: ys, u :: us, .cons r t, h => by
    rw [List.all_cons, Bool.and_eq_true] at h
    rw [List.countP_cons, List.countP_cons, count_eqU t h.2, eqU_of r h.1]
theorem mt_countL {X : Cx} : MtR X "list.count" (rCount X.K) := by
  intro pins s σ H x xs v us Q I rx rxs h
  obtain ⟨a, ys, y, rfl, rfl, hs, fy, fys, q⟩ := h
  cases rx
  cases rxs with
  | cons ry rt =>
    rename_i uy ut
    cases rt
    obtain ⟨its, rv, ⟨⟨cls, dd, data, sl⟩, n, ho, hc, hdn, hd⟩, hlen⟩ := I.list hs
    simp only at hc hd
    subst hc hd
    refine call_meets PySem.F.slot_list_count ⟨_, ho, rfl⟩ PySem.F.entry_list_count (PySem.F.args_list_count_2 _ _)
      (SeqAt.list_countAt a its.toArray n dd sl uy (eqU y)) ⟨ho, fun u' hu' => mem_eqAt ry fy rv fys u' (by simpa using hu'), ?_⟩
    refine ⟨.int ((ys.countP fun z => eqV z y : Nat) : Int), H, I.tok _, ⟨s.toks, ?_⟩, q⟩
    show Value.int ((its.toArray.toList.countP (eqU y) : Nat) : Int) s.toks = _
    rw [show its.toArray.toList.countP (eqU y) = ys.countP fun z => eqV z y from count_eqU rv fys]
theorem mt_countK {X : Cx} (K : PySem.W.Frag) (h : X.K = K := by rfl) : MtR X "list.count" (rCount K) := h ▸ mt_countL
/-- what isinstance and == ask of an own class -/
structure OwnC (K : PySem.W.Frag) (C : Addr) : Prop where
  ha : PySem.W.findIn K (.ref C) "__class__" = some (some (.builtin "object.__class__"))
  hn : PySem.W.specialIn K (.builtin "object.__class__") "__get__" = some (some (.builtin "getset_descriptor.__get__"))
  htk : PySem.W.takesIn K (.builtin "object.__class__") = some true
  hm : PySem.W.mroIn K C (.type "object") = some true
  kL : PySem.W.kitOne K (.type "list") (.ref C) = some false
  kT : PySem.W.kitOne K (.type "tuple") (.ref C) = some false
  kS : PySem.W.kitOne K (.type "str") (.ref C) = some false
  kI : PySem.W.kitOne K (.type "int") (.ref C) = some false
  kB : PySem.W.kitOne K (.type "bool") (.ref C) = some false
  kN : PySem.W.kitOne K (.type "NoneType") (.ref C) = some false
  kD : PySem.W.kitOne K (.type "dict") (.ref C) = some false
  cL : PySem.W.kitOne K (.ref C) (.type "list") = some false
  cT : PySem.W.kitOne K (.ref C) (.type "tuple") = some false
  cS : PySem.W.kitOne K (.ref C) (.type "str") = some false
  cI : PySem.W.kitOne K (.ref C) (.type "int") = some false
  cB : PySem.W.kitOne K (.ref C) (.type "bool") = some false
  nL : PySem.W.notFirst K C (.type "list") = true
  nT : PySem.W.notFirst K C (.type "tuple") = true
  nS : PySem.W.notFirst K C (.type "str") = true
  nI : PySem.W.notFirst K C (.type "int") = true
  nB : PySem.W.notFirst K C (.type "bool") = true
  nN : PySem.W.notFirst K C (.type "NoneType") = true
  nD : PySem.W.notFirst K C (.type "dict") = true
theorem OwnC.self {K : PySem.W.Frag} {C : Addr} : PySem.W.kitOne K (.ref C) (.ref C) = some true := if_pos (by simp)
theorem OwnC.same {K : PySem.W.Frag} {C : Addr} : PySem.W.notFirst K C (.ref C) = true := by simp [PySem.W.notFirst]
theorem OwnC.ty {K : PySem.W.Frag} {C a dx : Addr} {H : Hp} {fs : List (Str × V)} (o : OwnC K C) (c : Cls K C) (e : H a = some (.ins C dx fs)) : TyOf K H (.ref a) (.ref C) := .ins e c o.ha o.hn o.htk o.hm
end QO
end

section
set_option Elab.async false
set_option linter.all false
set_option maxRecDepth 100000
/-! Qdata: == and != of lists within lists and tuples, by what they hold. -/
namespace QB
open PySem PySem.Spec PyProof.Rows L2
structure Enc {α : Type} [DecidableEq α] (D : α → PyData) (ok : α → Prop) (n : Nat) : Prop where
  eq : ∀ x y, PyData.eqv (D x) (D y) = decide (x = y)
  lay : ∀ x, ok x → PyData.canLay0 (D x) = true
  dep : ∀ x, PyData.depth (D x) ≤ n
section
variable {α β : Type} [DecidableEq α] [DecidableEq β] {D : α → PyData} {E : β → PyData} {ok : α → Prop} {ok2 : β → Prop} {n m : Nat} {K : PySem.W.Frag} {H : Hp}
theorem Enc.eqAll (e : Enc D ok n) : ∀ l k : List α, PyData.eqvAll (l.map D) (k.map D) = decide (l = k)
  | [], [] => by simp [PyData.eqvAll]
  | [], _ :: _ => by simp [PyData.eqvAll]
  | _ :: _, [] => by simp [PyData.eqvAll]
  | x :: l, y :: k => by
    rw [List.map_cons, List.map_cons, PyData.eqvAll, e.eq, e.eqAll l k]
    by_cases h : x = y
    · subst h
      by_cases h2 : l = k <;> simp [h2]
    · simp [h]
theorem Enc.layAll (e : Enc D ok n) : ∀ l : List α, (∀ x ∈ l, ok x) → PyData.canLayAll0 (l.map D) = true
  | [], _ => by simp [PyData.canLayAll0]
  | x :: l, h => by
    rw [List.map_cons, PyData.canLayAll0, e.lay x (h x List.mem_cons_self), e.layAll l fun y hy => h y (List.mem_cons_of_mem _ hy)]
    rfl
theorem Enc.depAll (e : Enc D ok n) : ∀ l : List α, PyData.depthAll (l.map D) ≤ n
  | [] => by simp [PyData.depthAll]
  | x :: l => by
    rw [List.map_cons, PyData.depthAll]
    exact Nat.max_le.mpr ⟨e.dep x, e.depAll l⟩
theorem Enc.list (e : Enc D ok n) : Enc (fun l : List α => PyData.list (l.map D)) (fun l => ∀ x ∈ l, ok x) (n + 1) :=
  ⟨fun l k => by rw [PyData.eqv]; exact e.eqAll l k, fun l h => by rw [PyData.canLay0]; exact e.layAll l h, fun l => by rw [PyData.depth]; exact Nat.succ_le_succ (e.depAll l)⟩
theorem Enc.mono (e : Enc D ok n) (h : n ≤ m) : Enc D ok m := ⟨e.eq, e.lay, fun x => Nat.le_trans (e.dep x) h⟩
theorem Enc.pair (e : Enc D ok n) (f : Enc E ok2 n) : Enc (fun p : α × β => PyData.tuple [D p.1, E p.2]) (fun p => ok p.1 ∧ ok2 p.2) (n + 1) := by
  refine ⟨fun p q => ?_, fun p h => ?_, fun p => ?_⟩
  · rw [PyData.eqv, PyData.eqvAll, PyData.eqvAll, PyData.eqvAll, e.eq, f.eq, Bool.and_true]
    obtain ⟨p1, p2⟩ := p
    obtain ⟨q1, q2⟩ := q
    by_cases h1 : p1 = q1 <;> by_cases h2 : p2 = q2 <;> simp [h1, h2]
  · rw [PyData.canLay0, PyData.canLayAll0, PyData.canLayAll0, PyData.canLayAll0, e.lay _ h.1, f.lay _ h.2]
    rfl
  · rw [PyData.depth, PyData.depthAll, PyData.depthAll, PyData.depthAll]
    have := e.dep p.1
    have := f.dep p.2
    omega
theorem Enc.two (e : Enc D ok n) (f : Enc E ok2 n) : Enc (fun p : α × β => PyData.list [D p.1, E p.2]) (fun p => ok p.1 ∧ ok2 p.2) (n + 1) := by
  refine ⟨fun p q => ?_, fun p h => ?_, fun p => ?_⟩
  · rw [PyData.eqv, PyData.eqvAll, PyData.eqvAll, PyData.eqvAll, e.eq, f.eq, Bool.and_true]
    obtain ⟨p1, p2⟩ := p
    obtain ⟨q1, q2⟩ := q
    by_cases h1 : p1 = q1 <;> by_cases h2 : p2 = q2 <;> simp [h1, h2]
  · rw [PyData.canLay0, PyData.canLayAll0, PyData.canLayAll0, PyData.canLayAll0, e.lay _ h.1, f.lay _ h.2]
    rfl
  · rw [PyData.depth, PyData.depthAll, PyData.depthAll, PyData.depthAll]
    have := e.dep p.1
    have := f.dep p.2
    omega
theorem enc_str : Enc PyData.str (fun t => PyData.strOk t = true) 0 := ⟨fun x y => by
  rw [PyData.eqv]
  by_cases h : x = y <;> simp [h], fun x h => by rw [PyData.canLay0]; exact h, fun x => by simp [PyData.depth]⟩
theorem enc_int : Enc PyData.int (fun _ => True) 0 := ⟨fun x y => by
  rw [PyData.eqv]
  by_cases h : x = y <;> simp [h], fun x h => by rw [PyData.canLay0], fun x => by simp [PyData.depth]⟩
theorem enc_bool : Enc PyData.bool (fun _ => True) 0 := ⟨fun x y => by
  rw [PyData.eqv]
  by_cases h : x = y <;> simp [h], fun x h => by rw [PyData.canLay0], fun x => by simp [PyData.depth]⟩
def dW : Option Nat → PyData
  | none => .none
  | some n => .int (n : Int)
theorem enc_way : Enc dW (fun _ => True) 0 := by
  refine ⟨fun x y => ?_, fun x _ => ?_, fun x => ?_⟩
  · cases x <;> cases y <;> simp [dW, PyData.eqv]
    rename_i a b
    by_cases h : a = b
    · simp [h]
    · have : ¬ (a : Int) = (b : Int) := by omega
      simp [h, this]
  · cases x <;> simp [dW, PyData.canLay0]
  · cases x <;> simp [dW, PyData.depth]
def dWord (w : Word) : PyData := .list (w.map .str)
def dWays (w : Ways) : PyData := .list (w.map dW)
def dStd (s : Std) : PyData := .tuple [dWord s.1, dWays s.2]
def dForm (F : Form) : PyData := .list (F.map dStd)
def OkWord (w : Word) : Prop := ∀ t ∈ w, PyData.strOk t = true
def OkForm (F : Form) : Prop := ∀ s ∈ F, OkWord s.1
theorem enc_word : Enc dWord OkWord 1 := enc_str.list
theorem enc_ways : Enc dWays (fun w => ∀ x ∈ w, True) 1 := enc_way.list
theorem enc_std : Enc dStd (fun s => OkWord s.1 ∧ ∀ x ∈ s.2, True) 2 := enc_word.pair enc_ways
theorem enc_form : Enc dForm (fun F => ∀ s ∈ F, OkWord s.1 ∧ ∀ x ∈ s.2, True) 3 := enc_std.list
theorem OkForm.enc {F : Form} (h : OkForm F) : ∀ s ∈ F, OkWord s.1 ∧ ∀ x ∈ s.2, True := fun s hs => ⟨h s hs, fun _ _ => trivial⟩
theorem dpAll_map (f : α → V) (g : α → PyData) (h : ∀ x, Dp K H (f x) (g x)) : ∀ l : List α, DpAll K H (l.map f) (l.map g)
  | [] => .nil
  | x :: l => .cons (h x) (dpAll_map f g h l)
theorem dp_wd {a : Addr} {w : Word} (h : WordAt H a w) : Dp K H (.ref a) (dWord w) := .lst (SqL.of h) (dpAll_map _ _ (fun x => .str x) w)
theorem dp_way : ∀ x : Option Nat, Dp K H (vW x) (dW x)
  | none => .non
  | some n => .int (n : Int)
theorem dp_ways {a : Addr} {w : Ways} (h : WaysAt H a w) : Dp K H (.ref a) (dWays w) := .lst (SqL.of h) (dpAll_map _ _ dp_way w)
theorem dp_std {a : Addr} {s : Std} (h : StdAt H a s) : Dp K H (.ref a) (dStd s) := by
  obtain ⟨x, y, h1, h2, h3⟩ := h
  exact .tup (SqT.of h1) (.cons (dp_wd h2) (.cons (dp_ways h3) .nil))
theorem dp_form {a : Addr} {F : Form} (h : FormAt H a F) : Dp K H (.ref a) (dForm F) := by
  obtain ⟨ts, h1, h2⟩ := h
  refine .lst (SqL.of h1) ?_
  clear h1
  induction h2 with
  | nil => exact .nil
  | cons h _ ih => exact .cons (dp_std h) ih
theorem shaped_of (e : Enc D ok n) (hn : n ≤ 64) {x : α} (h : ok x) : SeqAt.shaped (D x) = true := by
  unfold SeqAt.shaped
  rw [Bool.and_eq_true]
  exact ⟨e.lay x h, decide_eq_true (Nat.le_trans (e.dep x) hn)⟩
theorem eq_enc (e : Enc D ok n) (hn : n ≤ 64) {u v : V} {x y : α} {Q : VK} (hx : Dp K H u (D x)) (hy : Dp K H v (D y)) (ox : ok x) (oy : ok y) (q : Q (.bl (decide (x = y))) H) : rEqD K u v H Q :=
  ⟨_, _, hx, hy, shaped_of e hn ox, shaped_of e hn oy, by rw [e.eq]; exact q⟩
theorem ne_enc (e : Enc D ok n) (hn : n ≤ 64) {u v : V} {x y : α} {Q : VK} (hx : Dp K H u (D x)) (hy : Dp K H v (D y)) (ox : ok x) (oy : ok y) (q : Q (.bl (!decide (x = y))) H) : rNeD K u v H Q :=
  ⟨_, _, hx, hy, shaped_of e hn ox, shaped_of e hn oy, by rw [e.eq]; exact q⟩
theorem eq_wd {a b : Addr} {v w : Word} {Q : VK} (hv : WordAt H a v) (hw : WordAt H b w) (ov : OkWord v) (ow : OkWord w) (q : Q (.bl (decide (v = w))) H) : rEqD K (.ref a) (.ref b) H Q := eq_enc enc_word (by decide) (dp_wd hv) (dp_wd hw) ov ow q
theorem ne_wd {a b : Addr} {v w : Word} {Q : VK} (hv : WordAt H a v) (hw : WordAt H b w) (ov : OkWord v) (ow : OkWord w) (q : Q (.bl (!decide (v = w))) H) : rNeD K (.ref a) (.ref b) H Q := ne_enc enc_word (by decide) (dp_wd hv) (dp_wd hw) ov ow q
theorem eq_form {a b : Addr} {F G : Form} {Q : VK} (hv : FormAt H a F) (hw : FormAt H b G) (ov : OkForm F) (ow : OkForm G) (q : Q (.bl (decide (F = G))) H) : rEqD K (.ref a) (.ref b) H Q := eq_enc enc_form (by decide) (dp_form hv) (dp_form hw) ov.enc ow.enc q
theorem ne_form {a b : Addr} {F G : Form} {Q : VK} (hv : FormAt H a F) (hw : FormAt H b G) (ov : OkForm F) (ow : OkForm G) (q : Q (.bl (!decide (F = G))) H) : rNeD K (.ref a) (.ref b) H Q := ne_enc enc_form (by decide) (dp_form hv) (dp_form hw) ov.enc ow.enc q
end
end QB
end

section
set_option Elab.async false
set_option linter.all false
set_option maxRecDepth 100000
set_option maxHeartbeats 2000000
/-! Qexc: a caught exception that outlives its suite. -/
namespace QX
open PySem PySem.Spec PyProof.Rows L2
/-- a caught exception that is kept: its class, its dict -/
def Kept (cls : Value) (d : Option Addr) (a : Addr) : HO := .ext fun h => ∃ (oe : Obj) (vs : Array Value), h.get? a = some oe ∧ Zc cls d oe ∧ oe.data = .fields vs
theorem kept_ok {P : Program} {w : World} {H : Hp} {h : Heap} {a : Addr} {cls : Value} {d : Option Addr} {ob : Obj} {fv : Array Value} (e : h.get? a = some ob) (z : Zc cls d ob) (hd : ob.data = .fields fv) : ObjOk P w H h a (Kept cls d a) :=
  ⟨⟨ob, fv, e, z, hd⟩, ⟨ob, e⟩, fun _ _ ⟨u, v, q, r⟩ k => ⟨u, v, k u q, r⟩⟩
theorem kept_get {P : Program} {w : World} {H : Hp} {h : Heap} {a : Addr} {cls : Value} {d : Option Addr} (hok : HOk P w H h) (e : H a = some (Kept cls d a)) : ∃ (ob : Obj) (fv : Array Value), h.get? a = some ob ∧ Zc cls d ob ∧ ob.data = .fields fv :=
  (show ObjOk P w H h a (.ext _) from hok a _ e).1
/-- what stood before a was made is not a -/
structure Apart (X : Cx) (pins : List (Addr × Obj)) (a : Addr) : Prop where
  s0 : ∀ b ob, X.s_0.heap.get? b = some ob → b ≠ a
  loc : X.env.locals ≠ a
  cell : ∀ y c, X.env.cells.lookup y = some c → c ≠ a
  pin : ∀ q ∈ X.pn ++ pins, q.1 ≠ a
section
variable {X : Cx} {pins : List (Addr × Obj)} {σ : L2.St} {H : Hp} {s : Shared} {a : Addr}
theorem Apart.of (I : Inv X pins σ H s) (hex : X.ex = []) (n : s.heap.get? a = none) : Apart X pins a := by
  have out : ∀ {b : Addr} {ob : Obj}, s.heap.get? b = some ob → b ≠ a := fun e z => by
    rw [z, n] at e
    cases e
  refine ⟨fun b ob e => ?_, ?_, fun y c e => ?_, fun q hq => out (I.pin q hq).1⟩
  · obtain ⟨u, hu⟩ := I.base.there b ob e (by rw [hex]; simp)
    exact out hu
  · obtain ⟨m, ⟨u, es, ep, hu, _⟩, _⟩ := I.loc
    exact out hu
  · obtain ⟨v, u, hu, _⟩ := I.cell y c e
    exact out hu
theorem track {o : HO} (I : Inv X pins σ H s) (ap : Apart X pins a) (na : H a = none) (ok : ObjOk X.prog X.w (upd H a o) s.heap a o) : Inv X pins σ (upd H a o) s := by
  have stays : ∀ {b : Addr} {u : HO}, H b = some u → upd H a o b = some u := fun e => (upd_ne (ne_of_none e na)).trans e
  exact { I with
    base := ⟨I.base.keep, I.base.slot, fun b ob e n hq => (upd_ne (ap.s0 b ob e)).trans (I.base.free b ob e n hq), I.base.there, fun b xs e => stays (I.base.tups b xs e), fun b u xs e => stays (I.base.frzs b u xs e), fun b ps e => by
      obtain ⟨m, q⟩ := I.base.tbls b ps e
      exact ⟨m, stays q⟩⟩
    free := (upd_ne ap.loc).trans I.free
    freeC := fun y c e => (upd_ne (ap.cell y c e)).trans (I.freeC y c e)
    pin := fun q hq => by
      obtain ⟨h1, h2, h3⟩ := I.pin q hq
      exact ⟨h1, (upd_ne (ap.pin q hq)).trans h2, h3⟩
    hok := I.hok.laidN (fun _ _ e => e) na ok }
end
/-- what a clause that keeps its exception wishes: at the suite's end the exception is tracked -/
def wKeep (K : PySem.W.Frag) (c : Value) (i : Nat) (ts : Addr → Value → Option Addr → TS) (Wout : WX) (D : Ends) : WX := fun cls d σ H =>
  ∃ b, PySem.W.exmOne K cls c = some b ∧ (b = false → Wout cls d σ H) ∧
    (b = true → ∀ a, H a = none → ts a cls d { nx := fun σ1 H1 => D.nx (σ1.set i none) (upd H1 a (Kept cls d a)), rt := fun v H1 => D.rt v (upd H1 a (Kept cls d a)), bk := fun σ1 H1 => D.bk (σ1.set i none) (upd H1 a (Kept cls d a)), ct := fun σ1 H1 => D.ct (σ1.set i none) (upd H1 a (Kept cls d a)) } (σ.set i (some (.ref a))) H)
section
variable {X : Cx} {x n : Str} {c : Value} {i : Nat} {body rest : List Stmt} {st₀ : Stmt} {np hpos tpos : Pos} {tb : WX → TS} {ts : Addr → Value → Option Addr → TS} {Wout : WX}
/-- the class that the clause names, looked up while an exception is handled -/
theorem clause_name {pins : List (Addr × Obj)} {σ : L2.St} {H : Hp} {s : Shared} {a : Addr} {pn : List (Addr × Obj)} (hc : Names X x c) (S : Inv (X.suite a pn) [] σ H s) {Q : Value → Shared → Prop} {E : Value → Shared → Prop} (q : Q c s) :
    wpAny (model X.prog X.w) (X.A.mark (some (.ref a))) (eval (.Name x np) X.env) Q E s := by
  rcases hc with ⟨h1, h2, h3 | ⟨h3, h4, h5⟩⟩
  · exact ld_glob (X := X.suite a pn) S h1 h3 q h2
  · exact ld_blt (X := X.suite a pn) S h1 h3 h4 q h5 h2
theorem keep_catch {pins : List (Addr × Obj)} {xe : Value → Shared → Prop} {D : Ends} {u : Value} {s' : Shared} (ok : X.Ok) (hs : X.stack = X.env :: X.outer) (hf : X.env.frame = some X.env.locals) (hex : X.ex = []) (hN : X.N.Nodup) (hi : X.N[i]? = some n) (hln : X.env.kindOf n = some .local) (hc : Names X x c) (tk : Takes X Wout)
    (hsu : ∀ (a : Addr) (oe : Obj) (cls : Value) (d : Option Addr) (pn : List (Addr × Obj)), Zc cls d oe → (∃ vs, oe.data = .fields vs) → PSs (X.suite a ((a, oe) :: pn)) (st₀ :: rest) (ts a cls d))
    (xx : XE (X.tr (X.pn ++ pins) xe) (wKeep X.K c i ts Wout D) u s') :
    wpAny (model X.prog X.w) X.A (noteFrame u X.env) (fun _ s₂ => wpAny (model X.prog X.w) X.A (setFlight u none) (fun _ s₃ => wpAny (model X.prog X.w) X.A (handleBy u X.env [.ExceptHandler (some (.Name x np)) (some n) (st₀ :: rest) hpos]) (SP X pins D) X.xe s₃) X.xe s₂) X.xe s' := by
  have hfr : X.A.frames = some (X.env :: X.outer) := by rw [ok.frames, hs]
  obtain ⟨a, B, sI, pins', σ', H', cls, d, rfl, J', nb, up, sky, na, os, ag, b, hb, hno, hyes⟩ := xx
  replace J' : Inv X pins σ' H' sI := J'.ofTry ok
  have apart : sI.heap.get? a = none → Apart X pins a := Apart.of J' hex
  replace sky : Sky B (X.env :: X.outer) a (Zc cls d) X.env.locals s'.heap := hs ▸ sky
  refine Sky.land Zc.steady hfr hf sky fun g1 fl1 up1 => ?_
  have I1 : Inv X pins σ' H' { s' with heap := g1 } := J'.landed nb fl1.1 (up.trans up1) os ag
  obtain ⟨o1, v1, k1, z1, d1⟩ := fl1.there
  have noFrame : a ∉ frs (X.env :: X.outer) := fun hm => by
    obtain ⟨_, o2, k2, hnf⟩ := fl1.2.2.1.mem hm
    rw [k1] at k2
    cases k2
    exact hnf _ d1
  have isIn : ∀ e ∈ X.env :: X.outer, e.frame ≠ some a := fun e he q => noFrame (List.mem_filterMap.mpr ⟨e, he, q⟩)
  have nL : a ≠ X.env.locals := fun z => isIn X.env List.mem_cons_self (z ▸ hf)
  have nF : a ∉ X.fs := fun hm => by
    obtain ⟨e, he, q⟩ := List.mem_filterMap.mp hm
    exact isIn e (List.mem_cons_of_mem _ he) q
  have ap : Apart X pins a := apart (by
    cases q : sI.heap.get? a with
    | none => rfl
    | some o2 =>
      have z := nb a o2 q (by rw [hs]; exact noFrame)
      rw [fl1.2.1] at z
      cases z)
  have S1 := I1.suite k1 d1 na nL nF
  refine wpAny_handleBy_cons (codeAny_handlers_test (clause_name (pins := pins) hc S1 ?_)) (fun q => by cases q)
  have ty : PySem.W.Looks (model X.prog X.w) g1 (typeOf (.ref a)) cls := fun A Q E t k q => wpAny_typeOf_ref (k _ _ k1) (z1.1.symm ▸ q)
  refine (PySem.W.exm_one (M := model X.prog X.w) I1.kIn ty hb).here ?_
  cases b with
  | true =>
    refine codeAny_handlers_suite_as (HandSPX.lands_againZ fl1 fun g2 fl2 up2 => ?_)
    have I2 : Inv X pins σ' H' { s' with heap := g2 } := J'.landed nb fl2.1 ((up.trans up1).trans up2) os ag
    obtain ⟨o2, v2, k2, z2, d2⟩ := fl2.there
    refine store_ok (X := X.suite a ((a, o2) :: (X.pn ++ pins))) (v := .ref a) (I2.suite k2 d2 na nL nF) hN hi (.inl hln) rfl (fun s5 S5 => ?_) (.inr hln)
    refine wpAny_mono ((hsu a o2 cls d (X.pn ++ pins) z2 ⟨_, d2⟩).run [] s5 _ H' _ S5 (hyes rfl a na)) (fun fl s6 hsp => ?_) (fun _ _ z => z.elim)
    have fin : ∀ {τ : L2.St} {G : Hp} {Q : Shared → Prop}, Inv (X.suite a ((a, o2) :: (X.pn ++ pins))) [] τ G s6 → (∀ s7, Inv X pins (τ.set i none) (upd G a (Kept cls d a)) s7 → Q s7) →
        wpAny (model X.prog X.w) X.A (do bindName X.env n .none; unbindBehindTheSuite X.env n hpos) (fun _ s7 => Q s7) X.xe s6 := fun S6 hq => by
      obtain ⟨h1, h2, _⟩ := S6.pin (a, o2) (List.mem_append_left _ List.mem_cons_self)
      exact gone_ok (track (S6.unsuite ok) ap h2 (kept_ok h1 z2 d2)) hN hi hln hq
    cases fl with
    | next =>
      obtain ⟨τ, G, S6, q6⟩ := hsp
      exact fin S6 fun s7 J7 => ⟨_, _, J7, q6⟩
    | brk =>
      obtain ⟨τ, G, S6, q6⟩ := hsp
      exact fin S6 fun s7 J7 => ⟨_, _, J7, q6⟩
    | cont =>
      obtain ⟨τ, G, S6, q6⟩ := hsp
      exact fin S6 fun s7 J7 => ⟨_, _, J7, q6⟩
    | ret r =>
      obtain ⟨v6, τ, G, S6, r6, q6⟩ := hsp
      exact fin S6 fun s7 J7 => ⟨_, _, _, J7, r6, q6⟩
  | false =>
    refine wpAny_handleBy_nil ?_
    obtain ⟨_, _, _, o3, v3, T, oT, ts', k3, z3, d3, h3, r3⟩ := id fl1
    unfold PySem.passOn
    refine wpAny_bind (wpAny_field k3 d3 h3 ?_)
    rw [if_neg (fun q : (Value.ref T == Value.none) = true => by simp at q)]
    have out : wpAny (model X.prog X.w) X.A (setFlight (.ref a) X.env.frame) (fun _ s4 => wpAny (model X.prog X.w) X.A (throw (.ref a) : Sem Flow) (SP X pins D) X.xe s4) X.xe { s' with heap := g1 } := by
      rw [hf]
      refine HandSPX.setFlight_upZ fl1 fun g2 held up2 => wpAny_throw (tk _ _ ⟨a, B, sI, pins, σ', H', cls, d, rfl, J', nb, (up.trans up1).trans up2, .inr (.inr ?_), na, os, ag, hno rfl⟩)
      rw [hs]
      exact held
    first
      | exact wpAny_bind (wpAny_pure (wpAny_bind out))
      | exact wpAny_bind out
/-- try: body / except x as n: suite, the exception kept -/
theorem ps_try_keep (hs : X.stack = X.env :: X.outer) (hf : X.env.frame = some X.env.locals) (hex : X.ex = []) (hN : X.N.Nodup) (hi : X.N[i]? = some n) (hln : X.env.kindOf n = some .local) (hc : Names X x c) (tk : Takes X Wout)
    (hb : ∀ (W : WX) (pn : List (Addr × Obj)) (xe : Value → Shared → Prop), Takes (X.tr pn xe) W → PassesOwn (model X.prog X.w) X.A X.env xe → PSs (X.tr pn xe) body (tb W))
    (hsu : ∀ (a : Addr) (oe : Obj) (cls : Value) (d : Option Addr) (pn : List (Addr × Obj)), Zc cls d oe → (∃ vs, oe.data = .fields vs) → PSs (X.suite a ((a, oe) :: pn)) (st₀ :: rest) (ts a cls d)) :
    PS X (.Try body [.ExceptHandler (some (.Name x np)) (some n) (st₀ :: rest) hpos] [] [] tpos) (fun D σ H => tb (wKeep X.K c i ts Wout D) D σ H) := by
  refine ⟨fun pins s σ H D I h => ?_⟩
  refine wpAny_Try_except (wpAny_mono ((hb (wKeep X.K c i ts Wout D) (X.pn ++ pins) _ (fun u s' xx => ?_) PassesOwn.looking).run [] s σ H D (I.toTry _) h) (fun fl s1 hsp => ?_) fun _ _ he => he)
  · exact keep_catch I.ok hs hf hex hN hi hln hc tk hsu xx
  · cases fl with
    | next =>
      obtain ⟨τ, G, J, q⟩ := hsp
      exact wpAny_execs_nil ⟨τ, G, J.ofTry I.ok, q⟩
    | brk =>
      obtain ⟨τ, G, J, q⟩ := hsp
      exact ⟨τ, G, J.ofTry I.ok, q⟩
    | cont =>
      obtain ⟨τ, G, J, q⟩ := hsp
      exact ⟨τ, G, J.ofTry I.ok, q⟩
    | ret r =>
      obtain ⟨v, τ, G, J, r1, q⟩ := hsp
      exact ⟨v, τ, G, J.ofTry I.ok, r1, q⟩
end
end QX
end

section
set_option Elab.async false
set_option linter.all false
set_option maxRecDepth 100000
set_option maxHeartbeats 2000000
/-! Qexc2: isinstance of a kept exception, its fields. -/
namespace QX
open PySem PySem.Spec PyProof.Rows L2
/-- its dict, if it has one, is tracked -/
def DictAt (H : Hp) (d : Option Addr) : Prop := d = none ∨ ∃ (dd : Addr) (fs : List (Str × V)), d = some dd ∧ H dd = some (.xd fs)
section
variable {X : Cx} {pins : List (Addr × Obj)} {σ : L2.St} {H : Hp} {s : Shared} {a D : Addr} {d : Option Addr}
theorem kept_inst (I : Inv X pins σ H s) (ha : H a = some (Kept (.ref D) d a)) (hd : DictAt H d) : ∃ (ob : Obj) (od : Option Obj), PySem.W.InstAt s.heap a ob D od := by
  obtain ⟨⟨oc, od, oda, osl⟩, fv, e, ⟨z1, z2⟩, z3⟩ := kept_get I.hok ha
  dsimp only at z1 z2 z3
  subst z1 z2 z3
  rcases hd with rfl | ⟨dd, fs, rfl, hx⟩
  · exact ⟨_, none, e, rfl, rfl, trivial⟩
  · obtain ⟨m, ⟨u, es, ep, hu, _⟩, _⟩ := (show ObjOk X.prog X.w H s.heap dd (.xd fs) from I.hok dd _ hx)
    exact ⟨_, some u, e, rfl, rfl, hu⟩
theorem kept_kit (I : Inv X pins σ H s) (C : ExcC X.K D) (ha : H a = some (Kept (.ref D) d a)) (hd : DictAt H d) : ∃ P : Heap → Prop, PySem.W.KitX X.K (.ref a) (.ref D) P ∧ P s.heap := by
  obtain ⟨ob, od, J⟩ := kept_inst I ha hd
  have hcl : (PySem.W.clsIn X.K D).isSome = true := by
    have h := C.hd
    unfold PySem.W.hasDictIn at h
    cases e : PySem.W.clsIn X.K D with
    | none =>
      rw [e] at h
      cases h
    | some _ => rfl
  exact ⟨_, PySem.W.kitx_exc (od := od) hcl C.hg C.hk C.hs C.ha C.hn C.ht C.hm, J⟩
end
/-- isinstance(e, c), e kept -/
def rIsX (K : PySem.W.Frag) : List V → Hp → VK → Prop := fun xs H Q => ∃ (a D : Addr) (d : Option Addr) (c : V) (u : Value) (b : Bool), xs = [.ref a, c] ∧ H a = some (Kept (.ref D) d a) ∧ DictAt H d ∧ ExcC K D ∧ ClsV c u ∧ PySem.W.kitOne K (.ref D) u = some b ∧ Q (.bl b) H
/-- isinstance(e, (c1, c2, ..)), e kept -/
def rIsXT (K : PySem.W.Frag) : List V → Hp → VK → Prop := fun xs H Q => ∃ (a D tp : Addr) (d : Option Addr) (cs : List V) (us : List Value) (b : Bool), xs = [.ref a, .ref tp] ∧ H a = some (Kept (.ref D) d a) ∧ DictAt H d ∧ ExcC K D ∧ H tp = some (.tup cs) ∧ Paired ClsV cs us ∧ PySem.W.kitAny K (.ref D) us = some b ∧ Q (.bl b) H
section
variable {X : Cx}
theorem call_isX : CallR X (.builtin "isinstance") (rIsX X.K) := by
  intro pins s σ H xs us Q I r ⟨a, D, d, c, u, b, ex, ha, hd, C, hc, e, q⟩
  subst ex
  obtain ⟨w1, w2, rfl, r1, r2⟩ := vals2 r
  cases hc.eq r2
  cases (show w1 = Value.ref a from r1)
  obtain ⟨P, Z, p⟩ := kept_kit I C ha hd
  exact PySem.W.kia_one Z I.kIn p e (fun z => nomatch z) fun tk => ⟨.bl b, H, I.tok tk, rfl, q⟩
theorem call_isXT : CallR X (.builtin "isinstance") (rIsXT X.K) := by
  intro pins s σ H xs us Q I r ⟨a, D, tp, d, cs, ws, b, ex, ha, hd, C, hT, hc, e, q⟩
  subst ex
  obtain ⟨w1, w2, rfl, r1, r2⟩ := vals2 r
  cases (show w1 = Value.ref a from r1)
  cases (show w2 = Value.ref tp from r2)
  obtain ⟨P, Z, p⟩ := kept_kit I C ha hd
  obtain ⟨_, its, rv, ⟨oc, od, dt, sl⟩, h1, h2, n, h3⟩ := (show ObjOk X.prog X.w H s.heap tp (.tup cs) from I.hok tp _ hT)
  cases ClsV.all hc rv
  dsimp only at h2 h3
  subst h2 h3
  exact PySem.W.kia_tup Z I.kIn p h1 e (fun z => nomatch z) fun tk => ⟨.bl b, H, I.tok tk, rfl, q⟩
theorem call_isXK (K : PySem.W.Frag) (h : X.K = K := by rfl) : CallR X (.builtin "isinstance") (rIsX K) := h ▸ call_isX
theorem call_isXTK (K : PySem.W.Frag) (h : X.K = K := by rfl) : CallR X (.builtin "isinstance") (rIsXT K) := h ▸ call_isXT
/-- e.f, e kept -/
def tFx (K : PySem.W.Frag) (f : Str) (te : TE) : TE := fun σ H Q => te σ H fun x H1 => ∃ (a C dd : Addr) (fs : List (Str × V)) (v : V), x = .ref a ∧ H1 a = some (Kept (.ref C) (some dd) a) ∧ XfC K C ∧ PySem.W.findIn K (.ref C) f = some none ∧ H1 dd = some (.xd fs) ∧ fs.lookup f = some v ∧ Q v H1
theorem pe_fx {e : Expr} {te : TE} {f : Str} {pos : Pos} (he : PE X e te) (hb : attributeBase e f X.env (eval e X.env) = eval e X.env) : PE X (.Attribute e f pos) (tFx X.K f te) := by
  refine ⟨fun pins s σ H Q I h => attr_of hb (thn (he.run pins s σ H _ I h) fun u s1 ⟨x, H1, I1, rx, a, C, dd, fs, v, ex, ha, T, hno, hx, hl, q⟩ => ?_)⟩
  subst ex
  cases (show u = Value.ref a from rx)
  obtain ⟨⟨oc, od, oda, osl⟩, fv, k1, ⟨z1, z2⟩, z3⟩ := kept_get I1.hok ha
  dsimp only at z1 z2 z3
  subst z1 z2 z3
  obtain ⟨m, hns, hr⟩ := (show ObjOk X.prog X.w H1 s1.heap dd (.xd fs) from I1.hok dd _ hx)
  obtain ⟨ot, ho, hlk⟩ := lookIn_ns hns
  obtain ⟨u, hu, ru⟩ := RelO.some_of (v := v) (o := m f) (by rw [← hl]; exact hr f)
  exact HandSPX.exc_get I1.kIn (od := some ot) ⟨k1, rfl, rfl, ho⟩ T.ga T.gg T.exC (PySem.W.findObj_own T.hdC hno rfl (by rw [hlk, hu])) (handed_of ru) ⟨v, H1, I1.tok _, ru, q⟩
theorem pe_fxK (K : PySem.W.Frag) {e : Expr} {te : TE} {f : Str} {pos : Pos} (he : PE X e te) (hb : attributeBase e f X.env (eval e X.env) = eval e X.env) (h : X.K = K := by rfl) : PE X (.Attribute e f pos) (tFx K f te) := h ▸ pe_fx he hb
end
end QX
end

section
set_option Elab.async false
set_option linter.all false
set_option maxRecDepth 100000
/-! Qend: from the Hook's facts to the text's. -/
namespace QE
open PySem PySem.Spec PyProof.Rows L2 He
def ownB (K : PySem.W.Frag) (C : Addr) : Bool :=
  (eqO (PySem.W.findIn K (.ref C) "__class__") (some (some (.builtin "object.__class__"))) && (eqO (PySem.W.specialIn K (.builtin "object.__class__") "__get__") (some (some (.builtin "getset_descriptor.__get__"))) &&
  (decide (PySem.W.takesIn K (.builtin "object.__class__") = some true) && decide (PySem.W.mroIn K C (.type "object") = some true)))) &&
  ((["list", "tuple", "str", "int", "bool", "NoneType", "dict"].all fun T => decide (PySem.W.kitOne K (.type T) (.ref C) = some false) && PySem.W.notFirst K C (.type T)) &&
  (["list", "tuple", "str", "int", "bool"].all fun T => decide (PySem.W.kitOne K (.ref C) (.type T) = some false)))
theorem ownB_ok {K : PySem.W.Frag} {C : Addr} (h : ownB K C = true) : QO.OwnC K C := by
  obtain ⟨h1, h2⟩ := ba h
  obtain ⟨a1, h1⟩ := ba h1
  obtain ⟨a2, h1⟩ := ba h1
  obtain ⟨a3, a4⟩ := ba h1
  obtain ⟨h3, h4⟩ := ba h2
  have k1 := fun T (m : T ∈ ["list", "tuple", "str", "int", "bool", "NoneType", "dict"]) => ba (List.all_eq_true.mp h3 T m)
  have k2 := fun T (m : T ∈ ["list", "tuple", "str", "int", "bool"]) => of_decide_eq_true (List.all_eq_true.mp h4 T m)
  have k3 := fun T (m : T ∈ ["list", "tuple", "str", "int", "bool", "NoneType", "dict"]) => of_decide_eq_true (k1 T m).1
  have k4 := fun T (m : T ∈ ["list", "tuple", "str", "int", "bool", "NoneType", "dict"]) => (k1 T m).2
  exact ⟨eqO_ok a1, eqO_ok a2, of_decide_eq_true a3, of_decide_eq_true a4, k3 _ (by simp), k3 _ (by simp), k3 _ (by simp), k3 _ (by simp), k3 _ (by simp), k3 _ (by simp), k3 _ (by simp),
    k2 _ (by simp), k2 _ (by simp), k2 _ (by simp), k2 _ (by simp), k2 _ (by simp), k4 _ (by simp), k4 _ (by simp), k4 _ (by simp), k4 _ (by simp), k4 _ (by simp), k4 _ (by simp), k4 _ (by simp)⟩
theorem funD_fun {K : PySem.W.Frag} {x q : Str} {st : Stmt} {f : Addr} {fd : FuncData} (F : FunD K x q (defArgs st) (defBody st) (defScope st) [] [] f fd) : L2.Fun K x q st f fd := by
  obtain ⟨oc, od, dV, kV, doc, pm, an, cdv, ct, osl, h1, h2, h3, h4, h5⟩ := F.ex
  have e : dV = .none := by
    rcases h4 with ⟨_, h4⟩ | ⟨h4, _⟩
    · exact h4
    · exact absurd rfl h4
  subst e
  exact ⟨⟨oc, od, kV, doc, pm, an, cdv, ct, osl, h1, h2, h3⟩, F.kp⟩
theorem funC_of {K : PySem.W.Frag} {x q : Str} {st : Stmt} {p : Str × Option Str} {fd : FuncData} (F : FunD K x q (defArgs st) (defBody st) (defScope st) [] [] (fAd K p) fd) : QB.FunC K x q st (fAd K p) fd (codeOf K p) := by
  obtain ⟨oc, od, kV, doc, pm, an, cdv, ct, osl, h1, h2, h3⟩ := (funD_fun F).ex
  obtain ⟨c, rfl⟩ := codeIn_ref h3
  have e : codeOf K p = c := codeOf_eq h2 (by rw [h1])
  rw [e]
  exact ⟨⟨oc, od, kV, doc, pm, an, ct, osl, h1, h2, h3⟩⟩
end QE
end

section
set_option Elab.async false
set_option linter.all false
set_option maxRecDepth 100000
set_option maxHeartbeats 2000000
/-! Qcls: the text's own exception classes, from the top's facts. -/
namespace QX
open PySem PySem.Spec PyProof.Rows L2 He
/-- an own exception class whose __init__ (at fI) writes the field f -/
structure ExcT (K : PySem.W.Frag) (C fI : Addr) (f : Str) : Prop where
  oex : OexC K C
  exc : ExcC K C
  xf : XfC K C
  noF : PySem.W.findIn K (.ref C) f = some none
  iC : PySem.W.findIn K (.ref C) "__init__" = some (some (.ref fI))
  tI : PySem.W.typeIn K (.ref fI) = some (.type "function")
/-- the class object is one of an exception class over ValueError -/
def clsB (K : PySem.W.Frag) (C : Addr) : Bool := match K.lookup C with
  | none => false
  | some ob => decide (ob.cls = .type "type") && (match ob.data with
    | .cls r => r.hasDict && (!r.hasDel && ((match r.mro with
      | m :: over => decide (m = .ref C) && PySem.HandSPX.refsVE over
      | [] => false) && (match ob.slots.toList with
      | [_, _, _, _, m, _] => decide (m = some (.builtin "ValueError.__new__"))
      | _ => false)))
    | _ => false)
theorem clsB_ok {K : PySem.W.Frag} {C : Addr} (h : clsB K C = true) : ∃ nm q N bs bm sn sub ab col dd k0 k1 k2 k3 k5, K.lookup C = some (excClassObj nm q C N bs bm true sn sub ab col dd k0 k1 k2 k3 k5 "ValueError.__new__") ∧ PySem.HandSPX.refsVE bm = true := by
  unfold clsB at h
  cases e : K.lookup C with
  | none =>
    rw [e] at h
    cases h
  | some ob =>
    rw [e] at h
    obtain ⟨oc, od, dt, sl⟩ := ob
    obtain ⟨h1, h2⟩ := ba h
    have h1 : oc = .type "type" := of_decide_eq_true h1
    subst h1
    cases dt with
    | cls r =>
      obtain ⟨nm, bs, mro, ns, qn, hd, sn, sub, ab, col, del⟩ := r
      obtain ⟨h3, h2⟩ := ba h2
      obtain ⟨h4, h2⟩ := ba h2
      obtain ⟨h5, h6⟩ := ba h2
      have h3 : hd = true := h3
      have h9 : del = false := by
        have h4 : (!del) = true := h4
        cases del with
        | false => rfl
        | true => cases h4
      clear h4
      subst h3 h9
      cases mro with
      | nil => cases h5
      | cons m over =>
        obtain ⟨h5, h7⟩ := ba h5
        have h5 : m = .ref C := of_decide_eq_true h5
        subst h5
        obtain ⟨l⟩ := sl
        match l, h6 with
        | [k0, k1, k2, k3, m4, k5], h6 =>
          have h6 : m4 = some (.builtin "ValueError.__new__") := of_decide_eq_true h6
          subst h6
          exact ⟨nm, qn, ns, bs, over, sn, sub, ab, col, od, k0, k1, k2, k3, k5, rfl, h7⟩
    | _ => cases h2
def excB (K : PySem.W.Frag) (C : Addr) : Bool :=
  eqO (PySem.W.findIn K (.ref C) "__getattribute__") (some (some (.builtin "BaseException.__getattribute__"))) && (eqO (PySem.W.findIn K (.ref C) "__getattr__") (some none) && (decide (PySem.W.subIn K (.ref C) (.type "BaseException") = some true) && (PySem.W.hasDictIn K C &&
  (eqO (PySem.W.findIn K (.ref C) "__class__") (some (some (.builtin "object.__class__"))) && (eqO (PySem.W.specialIn K (.builtin "object.__class__") "__get__") (some (some (.builtin "getset_descriptor.__get__"))) &&
  (decide (PySem.W.takesIn K (.builtin "object.__class__") = some true) && decide (PySem.W.mroIn K C (.type "object") = some true)))))))
theorem excB_ok {K : PySem.W.Frag} {C : Addr} (h : excB K C = true) : ExcC K C ∧ XfC K C := by
  obtain ⟨h1, h⟩ := ba h
  obtain ⟨h2, h⟩ := ba h
  obtain ⟨h3, h⟩ := ba h
  obtain ⟨h4, h⟩ := ba h
  obtain ⟨h5, h⟩ := ba h
  obtain ⟨h6, h⟩ := ba h
  obtain ⟨h7, h8⟩ := ba h
  exact ⟨⟨eqO_ok h1, eqO_ok h2, of_decide_eq_true h3, h4, eqO_ok h5, eqO_ok h6, of_decide_eq_true h7, of_decide_eq_true h8⟩, ⟨eqO_ok h1, eqO_ok h2, of_decide_eq_true h3, h4⟩⟩
def excTB (K : PySem.W.Frag) (C fI : Addr) (f : Str) : Bool :=
  clsB K C && (excB K C && (eqO (PySem.W.findIn K (.ref C) "__setattr__") (some (some (.builtin "object.__setattr__"))) && (decide (PySem.W.typeIn K (.ref C) = some (.type "type")) && (PySem.W.keepIn K (.ref C) &&
  (eqO (PySem.W.findIn K (.ref C) f) (some none) && (eqO (PySem.W.findIn K (.ref C) "__init__") (some (some (.ref fI))) && decide (PySem.W.typeIn K (.ref fI) = some (.type "function"))))))))
theorem excTB_ok {K : PySem.W.Frag} {C fI : Addr} {f : Str} (h : excTB K C fI f = true) : ExcT K C fI f := by
  obtain ⟨h1, h⟩ := ba h
  obtain ⟨h2, h⟩ := ba h
  obtain ⟨h3, h⟩ := ba h
  obtain ⟨h4, h⟩ := ba h
  obtain ⟨h5, h⟩ := ba h
  obtain ⟨h6, h⟩ := ba h
  obtain ⟨h7, h8⟩ := ba h
  obtain ⟨e1, e2⟩ := excB_ok h2
  exact ⟨⟨clsB_ok h1, eqO_ok h3, e1.hs, of_decide_eq_true h4, h5⟩, e1, e2, eqO_ok h6, eqO_ok h7, of_decide_eq_true h8⟩
/-- an own exception class without __init__ -/
structure ExcU (K : PySem.W.Frag) (C : Addr) : Prop where
  exc : ExcC K C
  tyC : PySem.W.typeIn K (.ref C) = some (.type "type")
  kC : PySem.W.keepIn K (.ref C) = true
def isB (K : PySem.W.Frag) (D C : Addr) (b : Bool) : Bool := decide (PySem.W.kitOne K (.ref D) (.ref C) = some b)
def isTB (K : PySem.W.Frag) (D : Addr) (T : String) (b : Bool) : Bool := decide (PySem.W.kitOne K (.ref D) (.type T) = some b)
def exmB (K : PySem.W.Frag) (D C : Addr) : Bool := decide (PySem.W.exmOne K (.ref D) (.ref C) = some true)
/-! what __init__ of such a class keeps -/
def spExI (K : PySem.W.Frag) (C : Addr) (f : Str) : Sp := fun vs H Q _ => ∃ (a : Addr) (y : V), vs = [.ref a, y] ∧ H a = some (exo a C none) ∧ ∀ dx, H dx = none → dx ≠ a → Q .non (upd (upd H dx (exd dx [(f, y)])) a (exo a C (some dx)))
/-- raise C(e): the reading behind e -/
theorem mkO_of {K : PySem.W.Frag} {C : Addr} {f : Str} {H1 : Hp} {v : V} {Q : XK} (k : ∀ d, H1 d = none → Q (.ref C) (some d) (upd H1 d (.xd [(f, v)]))) :
    ([v] : List V).length ≤ 1000 ∧ ∀ a, H1 a = none → spExI K C f (.ref a :: ([v] ++ [])) (upd H1 a (exo a C none))
      (fun v H2 => v = .non ∧ ∃ (d : Addr) (fs : List (Str × V)), H2 a = some (exo a C (some d)) ∧ H2 d = some (exd d fs) ∧ H1 d = none ∧ Q (.ref C) (some d) (upd (del H2 a) d (.xd fs))) (fun _ _ _ => False) := by
  refine ⟨by show 1 ≤ 1000; decide, fun a ha => ⟨a, v, rfl, upd_same, fun dx hd hne => ⟨rfl, dx, _, upd_same, Eq.trans (upd_ne hne) upd_same, ?_, ?_⟩⟩⟩
  · rw [← hd, upd_ne hne]
  · have hn : H1 dx = none := by rw [← hd, upd_ne hne]
    have e : upd (del (upd (upd (upd H1 a (exo a C none)) dx (exd dx [(f, v)])) a (exo a C (some dx))) a) dx (.xd [(f, v)]) = upd H1 dx (.xd [(f, v)]) := by
      funext b
      by_cases h1 : b = dx
      · subst h1
        rw [upd_same, upd_same]
      · rw [upd_ne h1, upd_ne h1]
        by_cases h2 : b = a
        · subst h2
          rw [del_same, ha]
        · rw [del_ne h2, upd_ne h2, upd_ne h1, upd_ne h2]
    rw [e]
    exact k dx hn
end QX
end

section
set_option Elab.async false
set_option linter.all false
set_option maxRecDepth 100000
set_option maxHeartbeats 2000000
/-! Qval: any plain values as data (an empty dict among them), read off the tracked heap; repr of them; a class made in a suite that may raise. -/
namespace QV
open PySem PySem.Spec PyProof.Rows L2 QB
mutual
/-- a value that is this data, each part of it tracked -/
inductive Dv (H : Hp) : V → PyData → Prop
  | non : Dv H .non .none
  | bl (b : Bool) : Dv H (.bl b) (.bool b)
  | int (i : Int) : Dv H (.int i) (.int i)
  | str (x : Str) : Dv H (.str x) (.str x)
  | lst {a : Addr} {xs : List V} {ds : List PyData} : H a = some (.lst xs) → DvAll H xs ds → Dv H (.ref a) (.list ds)
  | tup {a : Addr} {xs : List V} {ds : List PyData} : H a = some (.tup xs) → DvAll H xs ds → Dv H (.ref a) (.tuple ds)
  | dct {a : Addr} : H a = some (.dK []) → Dv H (.ref a) (.dict [])
inductive DvAll (H : Hp) : List V → List PyData → Prop
  | nil : DvAll H [] []
  | cons {v : V} {vs : List V} {d : PyData} {ds : List PyData} : Dv H v d → DvAll H vs ds → DvAll H (v :: vs) (d :: ds)
end
def tyD : PyData → Value
  | .none => .type "NoneType"
  | .bool _ => .type "bool"
  | .int _ => .type "int"
  | .str _ => .type "str"
  | .list _ => .type "list"
  | .tuple _ => .type "tuple"
  | .dict _ => .type "dict"
def isSD : PyData → Bool
  | .str _ => true
  | _ => false
def isLD : PyData → Bool
  | .list _ => true
  | _ => false
def isTD : PyData → Bool
  | .tuple _ => true
  | _ => false
def isID : PyData → Bool
  | .int _ => true
  | .bool _ => true
  | _ => false
def isBD : PyData → Bool
  | .bool _ => true
  | _ => false
theorem Dv.ty (K : PySem.W.Frag) {H : Hp} {v : V} {d : PyData} (h : Dv H v d) : TyX K H v (tyD d) := by
  cases h with
  | non => exact .base .non
  | bl b => exact .base (.bl b)
  | int i => exact .base (.int i)
  | str x => exact .base (.str x)
  | lst h _ => exact .base (.lst h)
  | tup h _ => exact .base (.tup h)
  | dct h => exact .base (.dK h)
section
variable {K : PySem.W.Frag}
theorem kit_s : ∀ d : PyData, PySem.W.kitOne K (tyD d) (.type "str") = some (isSD d)
  | .none => kit_ty (show kitB "NoneType" "str" = some false by decide +kernel)
  | .bool _ => kit_ty (show kitB "bool" "str" = some false by decide +kernel)
  | .int _ => kit_ty (show kitB "int" "str" = some false by decide +kernel)
  | .str _ => kit_ty (show kitB "str" "str" = some true by decide +kernel)
  | .list _ => kit_ty (show kitB "list" "str" = some false by decide +kernel)
  | .tuple _ => kit_ty (show kitB "tuple" "str" = some false by decide +kernel)
  | .dict _ => kit_ty (show kitB "dict" "str" = some false by decide +kernel)
theorem kit_l : ∀ d : PyData, PySem.W.kitOne K (tyD d) (.type "list") = some (isLD d)
  | .none => kit_ty (show kitB "NoneType" "list" = some false by decide +kernel)
  | .bool _ => kit_ty (show kitB "bool" "list" = some false by decide +kernel)
  | .int _ => kit_ty (show kitB "int" "list" = some false by decide +kernel)
  | .str _ => kit_ty (show kitB "str" "list" = some false by decide +kernel)
  | .list _ => kit_ty (show kitB "list" "list" = some true by decide +kernel)
  | .tuple _ => kit_ty (show kitB "tuple" "list" = some false by decide +kernel)
  | .dict _ => kit_ty (show kitB "dict" "list" = some false by decide +kernel)
theorem kit_t : ∀ d : PyData, PySem.W.kitOne K (tyD d) (.type "tuple") = some (isTD d)
  | .none => kit_ty (show kitB "NoneType" "tuple" = some false by decide +kernel)
  | .bool _ => kit_ty (show kitB "bool" "tuple" = some false by decide +kernel)
  | .int _ => kit_ty (show kitB "int" "tuple" = some false by decide +kernel)
  | .str _ => kit_ty (show kitB "str" "tuple" = some false by decide +kernel)
  | .list _ => kit_ty (show kitB "list" "tuple" = some false by decide +kernel)
  | .tuple _ => kit_ty (show kitB "tuple" "tuple" = some true by decide +kernel)
  | .dict _ => kit_ty (show kitB "dict" "tuple" = some false by decide +kernel)
theorem kit_i : ∀ d : PyData, PySem.W.kitOne K (tyD d) (.type "int") = some (isID d)
  | .none => kit_ty (show kitB "NoneType" "int" = some false by decide +kernel)
  | .bool _ => kit_ty (show kitB "bool" "int" = some true by decide +kernel)
  | .int _ => kit_ty (show kitB "int" "int" = some true by decide +kernel)
  | .str _ => kit_ty (show kitB "str" "int" = some false by decide +kernel)
  | .list _ => kit_ty (show kitB "list" "int" = some false by decide +kernel)
  | .tuple _ => kit_ty (show kitB "tuple" "int" = some false by decide +kernel)
  | .dict _ => kit_ty (show kitB "dict" "int" = some false by decide +kernel)
theorem kit_b : ∀ d : PyData, PySem.W.kitOne K (tyD d) (.type "bool") = some (isBD d)
  | .none => kit_ty (show kitB "NoneType" "bool" = some false by decide +kernel)
  | .bool _ => kit_ty (show kitB "bool" "bool" = some true by decide +kernel)
  | .int _ => kit_ty (show kitB "int" "bool" = some false by decide +kernel)
  | .str _ => kit_ty (show kitB "str" "bool" = some false by decide +kernel)
  | .list _ => kit_ty (show kitB "list" "bool" = some false by decide +kernel)
  | .tuple _ => kit_ty (show kitB "tuple" "bool" = some false by decide +kernel)
  | .dict _ => kit_ty (show kitB "dict" "bool" = some false by decide +kernel)
end
section
variable {T : List (Addr × Str)} {H H' : Hp}
mutual
/-- what isn't a table stays -/
theorem Dv.keep (k : ∀ p o, H p = some o → (∀ ps, o ≠ .tbl ps) → H' p = some o) : ∀ (d : PyData) (v : V), Dv H v d → Dv H' v d
  | .none, _, h => by
    cases h
    exact .non
  | .bool b, _, h => by
    cases h
    exact .bl b
  | .int i, _, h => by
    cases h
    exact .int i
  | .str x, _, h => by
    cases h
    exact .str x
  | .list ds, _, h => by
    cases h with
    | lst h1 h2 => exact .lst (k _ _ h1 fun _ z => nomatch z) (DvAll.keep k ds _ h2)
  | .tuple ds, _, h => by
    cases h with
    | tup h1 h2 => exact .tup (k _ _ h1 fun _ z => nomatch z) (DvAll.keep k ds _ h2)
  | .dict _, _, h => by
    cases h with
    | dct h1 => exact .dct (k _ _ h1 fun _ z => nomatch z)
theorem DvAll.keep (k : ∀ p o, H p = some o → (∀ ps, o ≠ .tbl ps) → H' p = some o) : ∀ (ds : List PyData) (vs : List V), DvAll H vs ds → DvAll H' vs ds
  | [], _, h => by
    cases h
    exact .nil
  | d :: ds, _, h => by
    cases h with
    | cons h1 h2 => exact .cons (Dv.keep k d _ h1) (DvAll.keep k ds _ h2)
end
theorem Dv.ext {v : V} {d : PyData} (h : Dv H v d) (x : QB.Ext T H H') : Dv H' v d := Dv.keep (fun _ _ e n => x.get e n) d v h
theorem Dv.same {v : V} {d : PyData} (h : Dv H v d) (x : Same H H') : Dv H' v d := Dv.keep (fun _ _ e _ => x _ _ e) d v h
theorem DvAll.ext {vs : List V} {ds : List PyData} (h : DvAll H vs ds) (x : QB.Ext T H H') : DvAll H' vs ds := DvAll.keep (fun _ _ e n => x.get e n) ds vs h
theorem DvAll.same {vs : List V} {ds : List PyData} (h : DvAll H vs ds) (x : Same H H') : DvAll H' vs ds := DvAll.keep (fun _ _ e _ => x _ _ e) ds vs h
theorem DvAll.len : ∀ {vs : List V} {ds : List PyData}, DvAll H vs ds → ds.length = vs.length
  | _, _, .nil => rfl
  | _, _, .cons _ h => by rw [List.length_cons, List.length_cons, DvAll.len h]
theorem DvAll.app : ∀ {xs ys : List V} {ds es : List PyData}, DvAll H xs ds → DvAll H ys es → DvAll H (xs ++ ys) (ds ++ es)
  | _, _, _, _, .nil, h => h
  | _, _, _, _, .cons h1 h2, h => .cons h1 (DvAll.app h2 h)
theorem DvAll.get : ∀ {vs : List V} {ds : List PyData} {i : Nat} {v : V}, DvAll H vs ds → vs[i]? = some v → ∃ d, ds[i]? = some d ∧ Dv H v d
  | _, _, i, _, .nil, e => by simp at e
  | _, _, 0, _, .cons h _, e => by
    simp at e
    subst e
    exact ⟨_, rfl, h⟩
  | _, _, i + 1, _, .cons _ h, e => by
    rw [List.getElem?_cons_succ] at e
    obtain ⟨d, q, r⟩ := DvAll.get h e
    exact ⟨d, by rw [List.getElem?_cons_succ]; exact q, r⟩
theorem DvAll.take : ∀ {vs : List V} {ds : List PyData} (i : Nat), DvAll H vs ds → DvAll H (vs.take i) (ds.take i)
  | _, _, i, .nil => by
    rw [List.take_nil, List.take_nil]
    exact .nil
  | _, _, 0, .cons _ _ => .nil
  | _, _, i + 1, .cons h1 h2 => .cons h1 (DvAll.take i h2)
theorem DvAll.drop : ∀ {vs : List V} {ds : List PyData} (i : Nat), DvAll H vs ds → DvAll H (vs.drop i) (ds.drop i)
  | _, _, i, .nil => by
    rw [List.drop_nil, List.drop_nil]
    exact .nil
  | _, _, 0, .cons h1 h2 => .cons h1 h2
  | _, _, i + 1, .cons _ h2 => DvAll.drop i h2
theorem DvAll.rep {v : V} {d : PyData} (h : Dv H v d) : ∀ n : Nat, DvAll H (List.replicate n v) (List.replicate n d)
  | 0 => .nil
  | n + 1 => by
    rw [List.replicate_succ, List.replicate_succ]
    exact .cons h (DvAll.rep h n)
theorem DvAll.strs : ∀ wd : List Str, DvAll H (wd.map V.str) (wd.map PyData.str)
  | [] => .nil
  | t :: wd => .cons (.str t) (DvAll.strs wd)
theorem DvAll.set : ∀ {vs : List V} {ds : List PyData} (i : Nat) {v : V} {d : PyData}, DvAll H vs ds → Dv H v d → DvAll H (vs.set i v) (ds.set i d)
  | _, _, _, _, _, .nil, _ => .nil
  | _, _, 0, _, _, .cons _ h2, h => .cons h h2
  | _, _, i + 1, _, _, .cons h1 h2, h => .cons h1 (DvAll.set i h2 h)
theorem DvAll.mem : ∀ {vs : List V} {ds : List PyData} {v : V}, DvAll H vs ds → v ∈ vs → ∃ d ∈ ds, Dv H v d
  | _, _, _, .cons (d := d) h1 h2, hm => by
    rcases List.mem_cons.mp hm with rfl | hm
    · exact ⟨d, List.mem_cons_self, h1⟩
    · obtain ⟨e, he, q⟩ := DvAll.mem h2 hm
      exact ⟨e, List.mem_cons_of_mem _ he, q⟩
end
/-! repr -/
/-- data that repr writes without passing a line -/
structure Shows (d : PyData) : Prop where
  few : d.leavesShort 30 = true
  show_ : d.showable = true
  weight : d.weight ≤ 100000
  deep : d.depth ≤ 40
theorem Shows.size {d : PyData} (s : Shows d) : d.shown.length ≤ sizeLine := by
  have h := PyData.shown_le 30 (by decide) d s.few
  have w := s.weight
  rw [sizeLine_eq]
  omega
section
variable {X : Cx} {pins : List (Addr × Obj)} {σ : L2.St} {H : Hp} {s : Shared}
theorem notMods (I : Inv X pins σ H s) (hB : ∃ mm, X.base.Ns sysModules mm) {a : Addr} {o : HO} (h : H a = some o) : sysModules ≠ a := fun e => by
  obtain ⟨mm, u, es, ep, eu, _⟩ := hB
  have := (I.bs _ _ eu).2
  rw [e, h] at this
  cases this
mutual
theorem Dv.reads (I : Inv X pins σ H s) (hB : ∃ mm, X.base.Ns sysModules mm) : ∀ (d : PyData) (v : V) (u : Value), Dv H v d → RelV v u → ∃ as, Reads s.heap u d as ∧ sysModules ∉ as
  | .none, _, _, h, r => by
    cases h
    cases r
    exact ⟨_, .none, List.not_mem_nil⟩
  | .bool b, _, _, h, r => by
    cases h
    cases r
    exact ⟨_, .bool b, List.not_mem_nil⟩
  | .int i, _, _, h, r => by
    cases h
    obtain ⟨t, rfl⟩ := r
    exact ⟨_, .int i t, List.not_mem_nil⟩
  | .str x, _, _, h, r => by
    cases h
    obtain ⟨t, rfl⟩ := r
    exact ⟨_, .str x t, List.not_mem_nil⟩
  | .list ds, _, _, h, r => by
    cases h with
    | lst hs ha =>
      cases r
      obtain ⟨its, rv, ⟨o, n, ho, hc, _, hd⟩, _⟩ := I.list (SqL.of hs)
      obtain ⟨as, hr, ns⟩ := DvAll.reads I hB ds _ its ha rv
      exact ⟨_, .list ho hc hd hr, fun z => (List.mem_cons.mp z).elim (notMods I hB hs) ns⟩
  | .tuple ds, _, _, h, r => by
    cases h with
    | tup hs ha =>
      cases r
      obtain ⟨its, rv, ⟨o, ho, hc, n, hd⟩, _⟩ := I.tuple (SqT.of hs)
      obtain ⟨as, hr, ns⟩ := DvAll.reads I hB ds _ its ha rv
      exact ⟨_, .tuple ho hc hd hr, ns⟩
  | .dict _, _, _, h, r => by
    cases h with
    | @dct a hs =>
      cases r
      obtain ⟨_, hn, vs, kv, o, es, ep, ho, hx, hd, _, hp, _⟩ := dk_of I.hok hs
      cases kv
      have he : es.toList = [] := by
        cases hl : es.toList with
        | nil => rfl
        | cons x r =>
          rw [hl] at hp
          cases hp
      refine ⟨_, .dict (kvs := []) (as := []) (bs := []) ho hx.1 hd (by rw [he]; exact .nil) (by rw [he]; exact .nil), fun z => ?_⟩
      rcases List.mem_cons.mp z with z | z
      · exact notMods I hB hs z
      · exact List.not_mem_nil z
theorem DvAll.reads (I : Inv X pins σ H s) (hB : ∃ mm, X.base.Ns sysModules mm) : ∀ (ds : List PyData) (vs : List V) (us : List Value), DvAll H vs ds → Vals vs us → ∃ as, ReadsAll s.heap us ds as ∧ sysModules ∉ as
  | [], _, _, h, r => by
    cases h
    cases r
    exact ⟨_, .nil, List.not_mem_nil⟩
  | d :: ds, _, _, h, r => by
    cases h with
    | cons h1 h2 =>
      cases r with
      | cons r1 r2 =>
        obtain ⟨as, q1, n1⟩ := Dv.reads I hB d _ _ h1 r1
        obtain ⟨bs, q2, n2⟩ := DvAll.reads I hB ds _ _ h2 r2
        exact ⟨_, .cons q1 q2, fun z => (List.mem_append.mp z).elim n1 n2⟩
end
end
def rReprV : List V → Hp → VK → Prop := fun xs H Q => ∃ (v : V) (d : PyData) (a : Addr), xs = [v] ∧ v = .ref a ∧ Dv H v d ∧ Shows d ∧ Q (.str d.shown) H
section
variable {X : Cx}
theorem call_reprV (hg : X.A.guards = some []) (hu : X.A.units + 64 < cLine) (hB : ∃ mm, X.base.Ns sysModules mm) : CallR X (.builtin "repr") rReprV := by
  intro pins s σ H xs us Q I r ⟨v, d, a, ex, ev, hd, sh, q⟩
  subst ex ev
  obtain ⟨u, rfl, ru⟩ := vals1 r
  have hdp := sh.deep
  obtain ⟨as, rd, ns⟩ := Dv.reads I hB d _ u hd ru
  cases ru
  exact repr_of_reads' rd sh.show_ (fun _ => ns) hg (by omega) (fun _ _ z => z) (fun h' t tk hk => ⟨.str d.shown, H, I.kept (t' := tk) hk, ⟨t, rfl⟩, q⟩) sh.size
end
/-! a class made in a suite that may raise -/
section
variable {X : Cx} {CX : CXT} {k : Nat} {f C : Addr} {fd : FuncData} {ps : List Str} {sp : Sp} {dvs : List V} {ds : List Value} {E : L2.St → XK} {x : Str} {p pos : Pos} {e : Expr} {es : List Expr} {t : TA}
def tMakeS (C : Addr) (sp : Sp) (dvs : List V) (E : L2.St → XK) (t : TA) : TE := fun σ H Q => t σ H fun vs G => ∀ o dx, G o = none → G dx = none → dx ≠ o →
  sp (.ref o :: (vs ++ dvs)) (upd (upd G dx (.own o)) o (.ins C dx [])) (fun r G2 => r = .non ∧ Q (.ref o) G2) (E σ)
theorem mk_run {pins : List (Addr × Obj)} {σ : L2.St} {H : Hp} {s : Shared} {Q : VK} {us : List Value} {vs : List V} (cm : Mk X.K C f) (fn : FnOk X.prog X.w X.K X.mg X.base CX k f fd ps sp) (room : Room (k + 1) X.A) (bi : Binds X.K fd ps ds) (dv : Vals dvs ds)
    (px : PassesAt CX X σ (E σ)) (inv : Inv X pins σ H s) (rel : Vals vs us)
    (go : ∀ o dx, H o = none → H dx = none → dx ≠ o → sp (.ref o :: (vs ++ dvs)) (upd (upd H dx (.own o)) o (.ins C dx [])) (fun r G2 => r = .non ∧ Q (.ref o) G2) (E σ)) :
    wpAny (model X.prog X.w) X.A (call (.ref C) us) (EP X pins σ Q) X.xe s := by
  have new1 : H (s.heap.objs.size + 1) = none := inv.hok.fresh (by omega)
  have new0 : H s.heap.objs.size = none := inv.hok.fresh (by omega)
  have said := go _ _ new1 new0 (show s.heap.objs.size ≠ s.heap.objs.size + 1 by omega)
  have inv2 := Inv.made (C := C) inv
  have rel2 : Vals (V.ref (s.heap.objs.size + 1) :: (vs ++ dvs)) (Value.ref (s.heap.objs.size + 1) :: (us ++ ds)) := .cons rfl (rel.append dv)
  have many : (Value.ref (s.heap.objs.size + 1) :: us ++ ds).length = ps.length := by
    have := rel2.length
    rw [fn.len _ _ _ _ said] at this
    exact this.symm
  have ran := fn.run _ X.stack _ _ ⟨Value.ref (s.heap.objs.size + 1) :: us, []⟩ (Value.ref (s.heap.objs.size + 1) :: (us ++ ds)) _ _ (E σ) (room.make C us []) (inv2.env0.make C us []) (bi _ (Value.ref (s.heap.objs.size + 1) :: us) inv2.kIn many) rel2 said
  refine wpAny_call (make_map (f := f) inv.kIn cm.makes cm.init (beq_iff_eq.mp cm.fn) (codeAny_mono ran fun out s' got => ?_))
  cases out with
  | error err => exact px pins _ _ err s' inv2 got
  | ok way =>
    cases way with
    | ret u =>
      have done := inv2.after got
      obtain ⟨v, G, inv3, rv, ev, q⟩ := done
      subst ev
      exact ⟨rv, ⟨V.ref (s.heap.objs.size + 1), G, inv3, rfl, q⟩⟩
    | _ => exact False.elim got
theorem pe_makeS (cm : Mk X.K C f) (fn : FnOk X.prog X.w X.K X.mg X.base CX k f fd ps sp) (room : Room (k + 1) X.A) (gl : Gl X x) (mgx : X.mg x = some (.ref C)) (bi : Binds X.K fd ps ds) (dv : Vals dvs ds) (px : ∀ σ, PassesAt CX X σ (E σ))
    (args : PA X (e :: es) t) (nd : (x == ("__debug__" : Str)) = false := by decide) (st : starEach (e :: es) X.env = (false, eval e X.env) :: starEach es X.env := by rfl) (pl : (backTo pos (starEach es X.env)).any (·.1) = false := by rfl) :
    PE X (.Call (.Name x p) (e :: es) [] pos) (tMakeS C sp dvs E t) := by
  refine ⟨fun pins s σ H Q inv said => wpAny_Call_Name_kw (ld_glob inv gl mgx ?_ nd)⟩
  have := args.run pos pins s σ H _ inv said
  exact PySem.W.callWith_K (h₀ := X.base) inv.ok.mod.kin cm.kp (thn this fun us s1 ⟨vs, G, inv1, rel, q⟩ => ⟨inv1.kIn, mk_run cm fn room bi dv (px σ) inv1 rel q⟩) st pl
end
/-! a list beside an empty one -/
def rNil (neg : Bool) : R2 := fun x y H Q => ∃ (p q : Addr) (xs : List V), x = .ref p ∧ y = .ref q ∧ H p = some (.lst xs) ∧ H q = some (.lst []) ∧ Q (.bl (if neg then !xs.isEmpty else xs.isEmpty)) H
section
variable {X : Cx}
theorem op_eqNil (hu : X.A.units + 64 < cLine) : OpR X (compareOp .Eq) (rNil false) := by
  intro pins s σ H x y v u Q I rx ry ⟨p, q, xs, ex, ey, h1, h2, k⟩
  subst ex ey
  cases rx
  cases ry
  obtain ⟨its, rv, pl, _⟩ := I.list (SqL.of h1)
  obtain ⟨its2, rv2, pl2, _⟩ := I.list (SqL.of h2)
  cases rv2
  cases rv with
  | nil => exact SeqAt.RcAt.lists pl.isList pl2.isList rfl (by omega) (e := fun _ => true) (fun j h => absurd h (Nat.not_lt_zero _)) _ _ _ _ ⟨.bl true, H, I, rfl, k⟩
  | cons _ _ => exact SeqAt.RcAt.lists_lengths pl.isList pl2.isList (by simp) (by omega) _ _ _ _ ⟨.bl false, H, I, rfl, k⟩
theorem op_neNil (hu : X.A.units + 64 < cLine) : OpR X (compareOp .NotEq) (rNil true) := by
  intro pins s σ H x y v u Q I rx ry ⟨p, q, xs, ex, ey, h1, h2, k⟩
  subst ex ey
  cases rx
  cases ry
  obtain ⟨its, rv, pl, _⟩ := I.list (SqL.of h1)
  obtain ⟨its2, rv2, pl2, _⟩ := I.list (SqL.of h2)
  cases rv2
  cases rv with
  | nil => exact SeqAt.RcNeAt.lists pl.isList pl2.isList rfl (by omega) (e := fun _ => true) (fun j h => absurd h (Nat.not_lt_zero _)) _ _ _ _ ⟨.bl false, H, I, rfl, k⟩
  | cons _ _ => exact SeqAt.RcNeAt.lists_lengths pl.isList pl2.isList (by simp) (by omega) _ _ _ _ ⟨.bl true, H, I, rfl, k⟩
end
/-- 'a' * 9 -/
def nine : Str := ⟨(List.replicate (9 : Int).toNat (Str.ofString "a").cps).foldl (· ++ ·) #[]⟩
theorem op_mul9 {X : Cx} : OpR X (binaryOp .Mult) (fun x y H Q => x = .str (Str.ofString "a") ∧ y = .int 9 ∧ Q (.str nine) H) := by
  intro pins s σ H x y v u Q I rx ry ⟨ex, ey, q⟩
  subst ex ey
  obtain ⟨t, rfl⟩ := (show ∃ t, v = Value.str (Str.ofString "a") t from rx)
  obtain ⟨t', rfl⟩ := (show ∃ t, u = Value.int 9 t from ry)
  refine PySem.P.mul_str (by decide) (fun _ _ => by decide +kernel) (fun _ _ => by decide +kernel) ?_
  rw [if_neg (by decide), if_neg (by decide +kernel)]
  exact ⟨by decide +kernel, ⟨.str nine, H, I.tok _, ⟨_, rfl⟩, q⟩⟩
theorem bo_repr : bootBuiltins (Str.ofString "repr") = some (.builtin "repr") := by decide +kernel
end QV
end

section
set_option Elab.async false
set_option linter.all false
set_option maxRecDepth 100000
set_option maxHeartbeats 2000000
/-! Qtop2: the law called from the top, where nothing is being written by repr and the modules stand in their place. -/
namespace QT
open PySem PySem.Spec PyProof.Rows L2 LamX
/-- the law's promise, asked of the caller's surroundings alone -/
def RunG (P : Program) (w : World) (K : PySem.W.Frag) (mg : Str → Option Value) (base : Heap) (CX : CXT) (fa : Addr) (fd : FuncData) (x : Str) (sp : Sp) : Prop :=
  ∀ (s : Shared) (H : Hp) (u : Value) (v : V) (Q : VK) (E : XK), Env0 P w K mg base callerA [] s H → BindsTo s fd ⟨[u], []⟩ [(x, u)] → RelV v u → sp [v] H Q E → codeAny (model P w) callerA (.call (.ref fa) ⟨[u], []⟩) (CR CX [] P w H s Q E) s
section
variable {P : Program} {w : World} {K : PySem.W.Frag} {mg mb : Str → Option Value} {CX : CXT} {fa a : Addr} {cs : List (Addr × Addr)} {fd : FuncData} {x : Str} {sp : Sp} {s₁ : Shared} {vs : List Value} {ns : List Int}
abbrev tabO : Obj := { cls := .none, data := .fields #[] }
abbrev lstO (vs : List Value) : Obj := { cls := .type "list", data := .seq vs.toArray }
open Classical in
/-- what is tracked at the start: the script, where it isn't written by the top, and the tables -/
noncomputable def H0 (K : PySem.W.Frag) (cs : List (Addr × Addr)) (vs : List Value) (ns : List Int) (a : Addr) : Hp := fun b =>
  if b = a ∧ K.lookup a = none then some (.frz (lstO vs) (.lst (ns.map V.int))) else if b ∈ cs.map (·.2) then some (.tbl #[]) else none
theorem h0_or {b : Addr} : (b = a ∧ K.lookup a = none ∧ H0 K cs vs ns a b = some (.frz (lstO vs) (.lst (ns.map V.int)))) ∨ (b ∈ cs.map (·.2) ∧ H0 K cs vs ns a b = some (.tbl #[])) ∨ H0 K cs vs ns a b = none := by
  unfold H0
  by_cases h1 : b = a ∧ K.lookup a = none
  · exact .inl ⟨h1.1, h1.2, if_pos h1⟩
  · rw [if_neg h1]
    by_cases h2 : b ∈ cs.map (·.2)
    · exact .inr (.inl ⟨h2, if_pos h2⟩)
    · exact .inr (.inr (if_neg h2))
theorem law_callG (KX : K.In s₁.heap) (hns : s₁.heap.Ns mainGlobals mg) (hb : s₁.heap.Ns builtinsNs mb) (hbb : ∀ x : Str, x ≠ "__name__" → mb x = bootBuiltins x) (hlim : s₁.heap.NoLimit) (hg : s₁.gens = #[])
    (hT : ∀ p ∈ cs, s₁.heap.get? p.2 = some tabO) (nT : ∀ p ∈ cs, K.lookup p.2 = none) (C : ∀ p ∈ cs, PySem.W.CodeHd s₁.heap p.1 p.2)
    (hbm : ∃ (bm : Addr) (ob : Obj), mg "__builtins__" = some (.ref bm) ∧ bm ≠ builtinsNs ∧ s₁.heap.get? bm = some ob ∧ ob.cls = .type "module" ∧ ob.dict = some builtinsNs ∧ ob.data = .plain)
    (ha : s₁.heap.get? a = some (lstO vs)) (hi : IntsAre vs ns) (hl : ns.length ≤ sizeLine)
    (hmm : ∃ mm, s₁.heap.Ns sysModules mm) (F : ∀ base : Heap, K.In base → base.Ns mainGlobals mg → (∃ mm, base.Ns sysModules mm) → (∀ p ∈ cs, TabB base mg p.1 p.2) → RunG P w K mg base CX fa fd x sp) (hbind : ∀ (s : Shared) (u : Value), BindsTo s fd ⟨[u], []⟩ [(x, u)])
    (hsp : ∀ H : Hp, (∀ p ∈ cs, H p.2 = some (.tbl #[])) → SqL K H a (ns.map V.int) → sp [.ref a] H (fun v _ => v = .bl true) fun _ _ _ => False)
    (hCX : ∀ H e s', CX [] H s₁ (fun _ _ _ => False) e s' → False) :
    codeAny (model P w) callerA (.call (.ref fa) ⟨[.ref a], []⟩) (fun r s' => r = .ok (.ret (.bool true)) ∧ OldK s₁.heap s'.heap ∧ s'.os = s₁.os ∧ AllBare s'.gens) s₁ := by
  have rv := vals_ints hi
  have hvl : vs.length = ns.length := hi.length
  have tabs : ∀ {b : Addr}, b ∈ cs.map (·.2) → ∃ p ∈ cs, p.2 = b ∧ s₁.heap.get? b = some tabO := fun hb => by
    obtain ⟨p, hp, rfl⟩ := List.mem_map.mp hb
    exact ⟨p, hp, rfl, hT p hp⟩
  have aT : a ∉ cs.map (·.2) := fun hm => by
    obtain ⟨_, _, _, e⟩ := tabs hm
    rw [ha] at e
    have e2 := congrArg Obj.data (Option.some.inj e)
    cases e2
  have hTab : ∀ p ∈ cs, H0 K cs vs ns a p.2 = some (.tbl #[]) := fun p hp => by
    have hm : p.2 ∈ cs.map (·.2) := List.mem_map.mpr ⟨p, hp, rfl⟩
    rcases h0_or (K := K) (cs := cs) (vs := vs) (ns := ns) (a := a) (b := p.2) with ⟨e, _⟩ | ⟨_, h⟩ | h
    · exact absurd (e ▸ hm) aT
    · exact h
    · unfold H0 at h
      rw [if_neg (fun q : p.2 = a ∧ K.lookup a = none => aT (q.1 ▸ hm)), if_pos hm] at h
      cases h
  have hSq : SqL K (H0 K cs vs ns a) a (ns.map V.int) := by
    cases hk : K.lookup a with
    | none => exact .inl (.inr ⟨lstO vs, by unfold H0; rw [if_pos ⟨rfl, hk⟩]⟩)
    | some o =>
      have e := KX a o hk
      rw [ha] at e
      cases e
      exact .inr ⟨_, vs.toArray, _, hk, rfl, rfl, rfl, by rw [List.size_toArray, hvl]; exact hl, by simpa using rv⟩
  have hOk : HOk P w (H0 K cs vs ns a) s₁.heap := fun b u hu => by
    rcases h0_or (K := K) (cs := cs) (vs := vs) (ns := ns) (a := a) (b := b) with ⟨rfl, _, h⟩ | ⟨hm, h⟩ | h
    · rw [h] at hu
      cases hu
      exact ⟨ha, by rw [List.length_map]; exact hl, vs, _, rv, ha⟩
    · rw [h] at hu
      cases hu
      obtain ⟨_, _, _, e⟩ := tabs hm
      exact e
    · rw [h] at hu
      cases hu
  -- what is neither the script nor a table stays in sight
  have free : ∀ {b : Addr} {o : Obj}, s₁.heap.get? b = some o → (∀ k m, o.data ≠ .seq k m) → o.data ≠ .fields #[] → H0 K cs vs ns a b = none := fun {b o} e h1 h2 => by
    rcases h0_or (K := K) (cs := cs) (vs := vs) (ns := ns) (a := a) (b := b) with ⟨rfl, _⟩ | ⟨hm, _⟩ | h
    · rw [ha] at e
      cases e
      exact absurd rfl (h1 _ _)
    · obtain ⟨_, _, _, q⟩ := tabs hm
      rw [q] at e
      cases e
      exact absurd rfl h2
    · exact h
  generalize hH : H0 K cs vs ns a = H at hTab hSq hOk free
  have sight : ∀ {b : Addr} {o : Obj}, s₁.heap.get? b = some o → H b = none → (hidT s₁.heap H).get? b = some o := fun e n => hidT_get e n
  have names : ∀ {b : Addr} {m : Str → Option Value}, s₁.heap.Ns b m → (hidT s₁.heap H).Ns b m := fun {b m} ⟨o, es, ep, e, d, r⟩ => ⟨o, es, ep, sight e (free e (fun k m z => by rw [d] at z; cases z) (fun z => by rw [d] at z; cases z)), d, r⟩
  have kept : K.In (hidT s₁.heap H) := fun b o e => sight (KX b o e) (by
    rcases h0_or (K := K) (cs := cs) (vs := vs) (ns := ns) (a := a) (b := b) with ⟨rfl, n, _⟩ | ⟨hm, _⟩ | h
    · rw [e] at n
      cases n
    · obtain ⟨p, hp, rfl, _⟩ := tabs hm
      rw [nT p hp] at e
      cases e
    · rw [← hH]
      exact h)
  have tabB : ∀ p ∈ cs, TabB (hidT s₁.heap H) mg p.1 p.2 := fun p hp => by
    have here := hT p hp
    refine ⟨?_, ?_, fun z => ?_⟩
    · obtain ⟨o, us, file, tf, flags, tg, inF, text, tt, e, q1, q2, q3, q⟩ := C p hp
      refine ⟨o, us, file, tf, flags, tg, inF, text, tt, sight e (free e (fun k m z => ?_) fun z => ?_), q1, q2, q3, q⟩
      · rw [q2] at z
        cases z
      · rw [q2] at z
        cases z
        simp at q3
    · obtain ⟨bm, ob, b1, b2, b3, b4, b5, b6⟩ := hbm
      refine ⟨bm, ob, b1, b2, fun z => ?_, fun z => ?_, sight b3 (free b3 (fun k m z => ?_) fun z => ?_), b4, b5, b6⟩
      · obtain ⟨o, es, ep, e, hd, _⟩ := hns
        rw [← z, b3] at e
        cases e
        rw [b6] at hd
        cases hd
      · rw [z, here] at b3
        cases b3
        cases b6
      · rw [b6] at z
        cases z
      · rw [b6] at z
        cases z
    · obtain ⟨o, es, ep, e, hd, _⟩ := hns
      rw [z, here] at e
      cases e
      cases hd
  have modOk : L2.Mod K mg (hidT s₁.heap H) := ⟨kept, names hns, ⟨mb, names hb, hbb⟩, let ⟨mc, h1, h2⟩ := hlim; ⟨mc, names h1, h2⟩⟩
  have env0 : Env0 P w K mg (hidT s₁.heap H) callerA [] s₁ H := ⟨rfl, modOk, fun b o e => of_hidT e, Nat.le_of_eq (hidT_size _ _), trivial, fun b hb => (nomatch hb), hOk, .of_eq hg⟩
  refine codeAny_mono (F _ kept (names hns) (hmm.imp fun _ z => names z) tabB s₁ H (.ref a) (.ref a) _ _ env0 (hbind s₁ (.ref a)) rfl (hsp H hTab hSq)) fun r s' hr => ?_
  cases r with
  | error e => exact (hCX H e s' hr).elim
  | ok fl =>
    cases fl with
    | next => exact hr.elim
    | brk => exact hr.elim
    | cont => exact hr.elim
    | ret u =>
      obtain ⟨v, G, os, bare, un, okG, ru, q⟩ := hr
      obtain rfl : v = .bl true := q
      obtain rfl : u = Value.bool true := ru
      have same : ∀ {b : Addr} {o : Obj}, b ∉ cs.map (·.2) → s₁.heap.get? b = some o → s'.heap.get? b = some o := fun {b o} nb e => by
        rcases h0_or (K := K) (cs := cs) (vs := vs) (ns := ns) (a := a) (b := b) with ⟨_, _, h⟩ | ⟨hm, _⟩ | h
        · rw [hH] at h
          obtain ⟨e1, _⟩ := hOk b _ h
          obtain ⟨e2, _⟩ := okG b _ (un.frzs b _ _ h)
          rw [e1] at e
          cases e
          exact e2
        · exact absurd hm nb
        · rw [hH] at h
          exact un.keep b o e h (fun z => nomatch z) (fun z => nomatch z)
      refine ⟨rfl, ⟨fun b o e => ?_, fun b o e => ?_⟩, os, bare⟩
      · by_cases hb : b ∈ cs.map (·.2)
        · obtain ⟨p, hp, rfl, q⟩ := tabs hb
          obtain ⟨more, z⟩ := un.tbls p.2 #[] (hTab p hp)
          rw [q] at e
          cases e
          exact .inr (.inl ⟨((C p hp).tab q).isCodeTable, rfl, #[], more, rfl, okG p.2 _ z⟩)
        · exact .inl (same hb e)
      · by_cases hb : b ∈ cs.map (·.2)
        · obtain ⟨p, hp, rfl, q⟩ := tabs hb
          obtain ⟨more, z⟩ := un.tbls p.2 #[] (hTab p hp)
          exact ⟨_, okG p.2 _ z⟩
        · exact ⟨o, same hb e⟩
end
/-- what is known of the law's promise at the head's heap -/
def LawG (l : PySem.W.OpenLaw) (w : World) (K : PySem.W.Frag) (CX : CXT) (n : Nat) (x : Str) (mg : Str → Option Value) (fa : Addr) (h : Heap) : Prop :=
  ∃ (fd : FuncData) (cs : List (Addr × Addr)) (sp : Sp), (∀ p ∈ cs, h.get? p.2 = some tabO) ∧ (∀ p ∈ cs, K.lookup p.2 = none) ∧ (∀ p ∈ cs, PySem.W.CodeHd h p.1 p.2) ∧ (∀ (s : Shared) (u : Value), BindsTo s fd ⟨[u], []⟩ [(x, u)]) ∧
    (∀ (H : Hp) (a : Addr) (ns : List Int), ns.length ≤ n → (∀ p ∈ cs, H p.2 = some (.tbl #[])) → SqL K H a (ns.map V.int) → sp [.ref a] H (fun v _ => v = .bl true) fun _ _ _ => False) ∧
    ∀ base : Heap, K.In base → base.Ns mainGlobals mg → (∃ mm, base.Ns sysModules mm) → (∀ p ∈ cs, TabB base mg p.1 p.2) → RunG l.prog w K mg base CX fa fd x sp
theorem walk_ofG {l : PySem.W.OpenLaw} {n : Nat} {q : Program} {loose : List Str} {XP : (Str → Option Value) → Heap → Prop} {YP : World → Heap → Prop} {d : DefRec} {CX : World → CXT} {x : Str}
    (hn : l.most = some n) (hn2 : n ≤ sizeLine) (hdf : d.params.defaults = []) (hi : importsNone q = true)
    (F : ∀ (w : World) (mg : Str → Option Value) (fa : Addr) (h : Heap), YP w h → h.Ns mainGlobals mg → mg d.name = some (.ref fa) → ∃ K : PySem.W.Frag, K.In h ∧ LawG l w K (CX w) n x mg fa h)
    (hCX : ∀ (w : World) (H : Hp) (s : Shared) (e : Value) (s' : Shared), CX w [] H s (fun _ _ _ => False) e s' → False) :
    PySem.W.WalkO q loose XP YP l.row.toRowW d [] (fun f vs => PySem.call f vs) := by
  refine Att.attach_callB hn hdf fun w s₀ s₁ mg mb fa o pm cd doc a vs ns G Y ho hd hcd hmg hobj hints hlen _ hg => ?_
  obtain ⟨K, KX, fd, cs, sp, h1, h2, h3, h4, h5, h6⟩ := F w mg fa _ Y G.T.g hmg
  exact law_callG KX G.T.g G.T.b G.T.builtins G.T.nolimit hg h1 h2 h3 G.T.bmain hobj hints (Nat.le_trans hlen hn2) ((G.T.seer hi).mods.imp fun _ z => z.1) h6 h4 (fun H a1 a2 => h5 H a ns hlen a1 a2) fun H e s' => hCX w H s₁ e s'
end QT
namespace QT
open PySem PySem.Spec PyProof.Rows L2 LamX
theorem guards0 {env : Env} : (callerA.deeper env).guards = some [] := by
  first
    | rfl
    | simp [callerA, Around.deeper]
section
variable {P : Program} {w : World} {K : PySem.W.Frag} {mg : Str → Option Value} {base : Heap}
/-- the promise out of the body, in the caller's surroundings -/
theorem run_ofG {x qual y : Str} {st : Stmt} {f : Addr} {fd : FuncData} {N : List Str} {k : Nat} {sp : Sp} (F : Fun K x qual st f fd) (S : FnScope N [y] (defScope st)) (hr : Room (k + 1) callerA) (len : ∀ vs H Q E, sp vs H Q E → vs.length = 1)
    (hbody : ∀ (cdv : Value) (s : Shared) (H : Hp) (vs : List V) (Q : VK) (E : XK), Room k (callerA.deeper (envOfC qual (defScope st) s.heap.objs.size f cdv)) → sp vs H Q E →
      ∃ t, PSs (cxOf CX0 P w K mg base N qual (defScope st) f cdv callerA [] s H E).nox (defBody st) t ∧ t { nx := fun _ H' => Q .non H', rt := Q } (start N vs) H) : RunG P w K mg base CX0 f fd y sp := by
  obtain ⟨oc, od, kV, doc, pm, an, cdv, ct, osl, rfl, lk, hcd⟩ := F.ex
  intro s H u v Q E e0 hb r hsp
  have stay : ∀ b o, base.get? b = some o → s.heap.get? b = some o := fun b o e => (e0.bs b o e).1
  have kin : K.In s.heap := e0.mod.kin.keeps stay
  have where_ : ∀ z ∈ [(y, u)], (defScope st).names.lookup z.1 = some .local ∨ ((defScope st).names.lookup z.1 = some .cell ∧ ((cellsFrom (s.heap.objs.size + 1) (defScope st).names []).lookup z.1).isSome = true) := fun z hz => by
    have e : z = (y, u) := by simpa using hz
    rcases S.par z.1 (by rw [e]; exact List.mem_singleton.mpr rfl) with q | q
    · exact .inl q
    · exact .inr ⟨q, PySem.W.cellsFrom_some _ _ _ (.inl q)⟩
  refine codeAny_call_function hr.depth (kin _ _ lk) rfl S.co S.gen rfl (PySem.W.codeRec_of kin hcd) (hb _ _ _ _ (wpAny_newFunctionEnv_cells S.kind where_ fun env he s1 q1 => ?_))
  subst he
  refine ⟨(e0.mod.nolimit.keeps stay).keeps q1.toInCall.keep, codeAny_func ?_⟩
  obtain ⟨t, ht, hq⟩ := hbody cdv s H [v] Q E (hr.deeper _) hsp
  have I : Inv (cxOf CX0 P w K mg base N qual (defScope st) f cdv callerA [] s H E) [] (start N [v]) H s1 := inv_start (ps := [y]) (us := [u]) S hr.hd e0 rfl (.cons r .nil) q1
  refine wpAny_mono (ht.nox.run [] s1 (start N [v]) H _ I hq) (fun fl s' hs => ?_) fun _ _ hs => hs
  cases fl with
  | ret z =>
    obtain ⟨v', τ, G, J, rv, q⟩ := hs
    exact ⟨v', G, J.os, J.bare, J.base, J.hok, rv, q⟩
  | next =>
    obtain ⟨τ, G, J, q⟩ := hs
    exact ⟨.non, G, J.os, J.bare, J.base, J.hok, rfl, q⟩
  | brk =>
    obtain ⟨τ, G, J, q⟩ := hs
    exact q.elim
  | cont =>
    obtain ⟨τ, G, J, q⟩ := hs
    exact q.elim
end
end QT
end

section
set_option Elab.async false
set_option linter.all false
set_option maxRecDepth 100000
set_option maxHeartbeats 4000000
namespace Law
open PySem PySem.Spec PyProof.Rows L2 LamX QB QM
def topS (i : Nat) : Stmt := PySem.Challenge.pw_subjecttags_k11_makers_refused.main.body.getD i (.Pass ⟨0, 0, 0, 0⟩)
abbrev s__wall : Stmt := topS 0
theorem sc__wall : FnScope ["k"] ["k"] (defScope s__wall) := ⟨rfl, rfl, rfl, by decide +kernel, rfl, by decide +kernel, by decide +kernel⟩
abbrev s_InvalidTags___init__ : Stmt := inClass (topS 3) 0
theorem sc_InvalidTags___init__ : FnScope ["self", "index"] ["self", "index"] (defScope s_InvalidTags___init__) := ⟨rfl, rfl, rfl, by decide +kernel, rfl, by decide +kernel, by decide +kernel⟩
abbrev s_InvalidSubject___init__ : Stmt := inClass (topS 4) 0
theorem sc_InvalidSubject___init__ : FnScope ["self", "index"] ["self", "index"] (defScope s_InvalidSubject___init__) := ⟨rfl, rfl, rfl, by decide +kernel, rfl, by decide +kernel, by decide +kernel⟩
abbrev s_InvalidEater___init__ : Stmt := inClass (topS 5) 0
theorem sc_InvalidEater___init__ : FnScope ["self", "index"] ["self", "index"] (defScope s_InvalidEater___init__) := ⟨rfl, rfl, rfl, by decide +kernel, rfl, by decide +kernel, by decide +kernel⟩
abbrev s_InvalidTag___init__ : Stmt := inClass (topS 6) 0
theorem sc_InvalidTag___init__ : FnScope ["self", "tag"] ["self", "tag"] (defScope s_InvalidTag___init__) := ⟨rfl, rfl, rfl, by decide +kernel, rfl, by decide +kernel, by decide +kernel⟩
abbrev s_InvalidPairs___init__ : Stmt := inClass (topS 7) 0
theorem sc_InvalidPairs___init__ : FnScope ["self", "index"] ["self", "index"] (defScope s_InvalidPairs___init__) := ⟨rfl, rfl, rfl, by decide +kernel, rfl, by decide +kernel, by decide +kernel⟩
abbrev s_InvalidNumber___init__ : Stmt := inClass (topS 8) 0
theorem sc_InvalidNumber___init__ : FnScope ["self", "number"] ["self", "number"] (defScope s_InvalidNumber___init__) := ⟨rfl, rfl, rfl, by decide +kernel, rfl, by decide +kernel, by decide +kernel⟩
abbrev s_TooMany___init__ : Stmt := inClass (topS 9) 0
theorem sc_TooMany___init__ : FnScope ["self", "limit"] ["self", "limit"] (defScope s_TooMany___init__) := ⟨rfl, rfl, rfl, by decide +kernel, rfl, by decide +kernel, by decide +kernel⟩
abbrev s_is_number : Stmt := topS 17
theorem sc_is_number : FnScope ["x", "least", "most"] ["x", "least", "most"] (defScope s_is_number) := ⟨rfl, rfl, rfl, by decide +kernel, rfl, by decide +kernel, by decide +kernel⟩
abbrev s_is_list : Stmt := topS 18
theorem sc_is_list : FnScope ["x", "least", "most"] ["x", "least", "most"] (defScope s_is_list) := ⟨rfl, rfl, rfl, by decide +kernel, rfl, by decide +kernel, by decide +kernel⟩
abbrev s_is_name : Stmt := topS 19
theorem sc_is_name : FnScope ["x", "letter"] ["x"] (defScope s_is_name) := ⟨rfl, rfl, rfl, by decide +kernel, rfl, by decide +kernel, by decide +kernel⟩
abbrev s_is_tag : Stmt := topS 20
theorem sc_is_tag : FnScope ["tags", "x"] ["tags", "x"] (defScope s_is_tag) := ⟨rfl, rfl, rfl, by decide +kernel, rfl, by decide +kernel, by decide +kernel⟩
abbrev s_is_subject : Stmt := topS 21
theorem sc_is_subject : FnScope ["tags", "x", "tag"] ["tags", "x"] (defScope s_is_subject) := ⟨rfl, rfl, rfl, by decide +kernel, rfl, by decide +kernel, by decide +kernel⟩
abbrev s_is_standing : Stmt := topS 22
theorem sc_is_standing : FnScope ["tags", "many", "x", "word", "ways", "way"] ["tags", "many", "x"] (defScope s_is_standing) := ⟨rfl, rfl, rfl, by decide +kernel, rfl, by decide +kernel, by decide +kernel⟩
abbrev s_check_tags : Stmt := topS 23
theorem sc_check_tags : FnScope ["tags", "at", "tag"] ["tags"] (defScope s_check_tags) := ⟨rfl, rfl, rfl, by decide +kernel, rfl, by decide +kernel, by decide +kernel⟩
abbrev s_check_word : Stmt := topS 24
theorem sc_check_word : FnScope ["tags", "word", "most", "at", "tag"] ["tags", "word", "most"] (defScope s_check_word) := ⟨rfl, rfl, rfl, by decide +kernel, rfl, by decide +kernel, by decide +kernel⟩
abbrev s_check_standings : Stmt := topS 25
theorem sc_check_standings : FnScope ["tags", "standings", "at", "standing"] ["tags", "standings"] (defScope s_check_standings) := ⟨rfl, rfl, rfl, by decide +kernel, rfl, by decide +kernel, by decide +kernel⟩
abbrev s_check_number : Stmt := topS 26
theorem sc_check_number : FnScope ["number", "most"] ["number", "most"] (defScope s_check_number) := ⟨rfl, rfl, rfl, by decide +kernel, rfl, by decide +kernel, by decide +kernel⟩
abbrev s_no_ways : Stmt := topS 28
theorem sc_no_ways : FnScope ["tags"] ["tags"] (defScope s_no_ways) := ⟨rfl, rfl, rfl, by decide +kernel, rfl, by decide +kernel, by decide +kernel⟩
abbrev s_walked : Stmt := topS 29
theorem sc_walked : FnScope ["tags", "standings", "word", "at", "many", "tag", "way"] ["tags", "standings", "word"] (defScope s_walked) := ⟨rfl, rfl, rfl, by decide +kernel, rfl, by decide +kernel, by decide +kernel⟩
abbrev s_made : Stmt := topS 30
theorem sc_made : FnScope ["tags", "standings", "subject", "at", "many"] ["tags", "standings", "subject"] (defScope s_made) := ⟨rfl, rfl, rfl, by decide +kernel, rfl, by decide +kernel, by decide +kernel⟩
abbrev s_is_settled_at : Stmt := topS 31
theorem sc_is_settled_at : FnScope ["standing", "way"] ["standing"] (defScope s_is_settled_at) := ⟨rfl, rfl, rfl, by decide +kernel, rfl, by decide +kernel, by decide +kernel⟩
abbrev s_is_made_at : Stmt := topS 32
theorem sc_is_made_at : FnScope ["tags", "standing", "subject", "word", "ways", "stops", "tag", "way"] ["tags", "standing", "subject"] (defScope s_is_made_at) := ⟨rfl, rfl, rfl, by decide +kernel, rfl, by decide +kernel, by decide +kernel⟩
abbrev s_copied : Stmt := topS 33
theorem sc_copied : FnScope ["standings", "word", "ways"] ["standings"] (defScope s_copied) := ⟨rfl, rfl, rfl, by decide +kernel, rfl, by decide +kernel, by decide +kernel⟩
abbrev s_without_needless_ways : Stmt := topS 34
theorem sc_without_needless_ways : FnScope ["tags", "standings", "needed", "settled", "at", "word", "ways", "place", "tag", "way"] ["tags", "standings"] (defScope s_without_needless_ways) := ⟨rfl, rfl, rfl, by decide +kernel, rfl, by decide +kernel, by decide +kernel⟩
abbrev s_numbered : Stmt := topS 35
theorem sc_numbered : FnScope ["marks", "numbers", "told", "mark"] ["marks"] (defScope s_numbered) := ⟨rfl, rfl, rfl, by decide +kernel, rfl, by decide +kernel, by decide +kernel⟩
abbrev s_parted : Stmt := topS 36
theorem sc_parted : FnScope ["classes", "standings", "marks", "number", "_", "ways", "way"] ["classes", "standings"] (defScope s_parted) := ⟨rfl, rfl, rfl, by decide +kernel, rfl, by decide +kernel, by decide +kernel⟩
abbrev s_alike_classes : Stmt := topS 37
theorem sc_alike_classes : FnScope ["standings", "classes", "many", "word", "_"] ["standings"] (defScope s_alike_classes) := ⟨rfl, rfl, rfl, by decide +kernel, rfl, by decide +kernel, by decide +kernel⟩
abbrev s_in_order_met : Stmt := topS 38
theorem sc_in_order_met : FnScope ["standings", "classes", "numbers", "met", "told", "beside", "ways", "way"] ["standings", "classes"] (defScope s_in_order_met) := ⟨rfl, rfl, rfl, by decide +kernel, rfl, by decide +kernel, by decide +kernel⟩
abbrev s_least_form : Stmt := topS 39
theorem sc_least_form : FnScope ["tags", "standings", "needed"] ["tags", "standings"] (defScope s_least_form) := ⟨rfl, rfl, rfl, by decide +kernel, rfl, by decide +kernel, by decide +kernel⟩
abbrev s_Eater___init__ : Stmt := inClass (topS 41) 0
theorem sc_Eater___init__ : FnScope ["self", "tags", "standings"] ["self", "tags", "standings"] (defScope s_Eater___init__) := ⟨rfl, rfl, rfl, by decide +kernel, rfl, by decide +kernel, by decide +kernel⟩
abbrev s_Eater___len__ : Stmt := inClass (topS 41) 1
theorem sc_Eater___len__ : FnScope ["self"] ["self"] (defScope s_Eater___len__) := ⟨rfl, rfl, rfl, by decide +kernel, rfl, by decide +kernel, by decide +kernel⟩
abbrev s_Eater___eq__ : Stmt := inClass (topS 41) 2
theorem sc_Eater___eq__ : FnScope ["self", "other"] ["self", "other"] (defScope s_Eater___eq__) := ⟨rfl, rfl, rfl, by decide +kernel, rfl, by decide +kernel, by decide +kernel⟩
abbrev s_Eater___contains__ : Stmt := inClass (topS 41) 3
theorem sc_Eater___contains__ : FnScope ["self", "x", "standing"] ["self", "x"] (defScope s_Eater___contains__) := ⟨rfl, rfl, rfl, by decide +kernel, rfl, by decide +kernel, by decide +kernel⟩
abbrev s_Eater_tags : Stmt := inClass (topS 41) 4
theorem sc_Eater_tags : FnScope ["self"] ["self"] (defScope s_Eater_tags) := ⟨rfl, rfl, rfl, by decide +kernel, rfl, by decide +kernel, by decide +kernel⟩
abbrev s_Eater_standings : Stmt := inClass (topS 41) 5
theorem sc_Eater_standings : FnScope ["self"] ["self"] (defScope s_Eater_standings) := ⟨rfl, rfl, rfl, by decide +kernel, rfl, by decide +kernel, by decide +kernel⟩
abbrev s_Eater_on : Stmt := inClass (topS 41) 6
theorem sc_Eater_on : FnScope ["self", "subject"] ["self", "subject"] (defScope s_Eater_on) := ⟨rfl, rfl, rfl, by decide +kernel, rfl, by decide +kernel, by decide +kernel⟩
abbrev s_Eater_settled : Stmt := inClass (topS 41) 7
theorem sc_Eater_settled : FnScope ["self", "word", "at", "many"] ["self", "word"] (defScope s_Eater_settled) := ⟨rfl, rfl, rfl, by decide +kernel, rfl, by decide +kernel, by decide +kernel⟩
abbrev s_Eater_then : Stmt := inClass (topS 41) 8
theorem sc_Eater_then : FnScope ["self", "other"] ["self", "other"] (defScope s_Eater_then) := ⟨rfl, rfl, rfl, by decide +kernel, rfl, by decide +kernel, by decide +kernel⟩
abbrev s_Eater_power : Stmt := inClass (topS 41) 9
theorem sc_Eater_power : FnScope ["self", "times"] ["self", "times"] (defScope s_Eater_power) := ⟨rfl, rfl, rfl, by decide +kernel, rfl, by decide +kernel, by decide +kernel⟩
abbrev s_eater_of : Stmt := topS 42
theorem sc_eater_of : FnScope ["tags", "form", "eater"] ["tags", "form"] (defScope s_eater_of) := ⟨rfl, rfl, rfl, by decide +kernel, rfl, by decide +kernel, by decide +kernel⟩
abbrev s_check_tag : Stmt := topS 45
theorem sc_check_tag : FnScope ["tags", "tag"] ["tags", "tag"] (defScope s_check_tag) := ⟨rfl, rfl, rfl, by decide +kernel, rfl, by decide +kernel, by decide +kernel⟩
abbrev s_check_some : Stmt := topS 46
theorem sc_check_some : FnScope ["tags", "some", "at", "tag"] ["tags", "some"] (defScope s_check_some) := ⟨rfl, rfl, rfl, by decide +kernel, rfl, by decide +kernel, by decide +kernel⟩
abbrev s_is_pair : Stmt := topS 47
theorem sc_is_pair : FnScope ["tags", "x"] ["tags", "x"] (defScope s_is_pair) := ⟨rfl, rfl, rfl, by decide +kernel, rfl, by decide +kernel, by decide +kernel⟩
abbrev s_check_pairs : Stmt := topS 48
theorem sc_check_pairs : FnScope ["tags", "pairs", "firsts", "at", "pair"] ["tags", "pairs"] (defScope s_check_pairs) := ⟨rfl, rfl, rfl, by decide +kernel, rfl, by decide +kernel, by decide +kernel⟩
abbrev s_ways_for : Stmt := topS 49
theorem sc_ways_for : FnScope ["tags", "some", "to", "tag"] ["tags", "some", "to"] (defScope s_ways_for) := ⟨rfl, rfl, rfl, by decide +kernel, rfl, by decide +kernel, by decide +kernel⟩
abbrev s_keep : Stmt := topS 50
theorem sc_keep : FnScope ["tags"] ["tags"] (defScope s_keep) := ⟨rfl, rfl, rfl, by decide +kernel, rfl, by decide +kernel, by decide +kernel⟩
abbrev s_put : Stmt := topS 51
theorem sc_put : FnScope ["tags", "word"] ["tags", "word"] (defScope s_put) := ⟨rfl, rfl, rfl, by decide +kernel, rfl, by decide +kernel, by decide +kernel⟩
abbrev s_strip : Stmt := topS 52
theorem sc_strip : FnScope ["tags", "some", "most", "standings", "taken"] ["tags", "some", "most"] (defScope s_strip) := ⟨rfl, rfl, rfl, by decide +kernel, rfl, by decide +kernel, by decide +kernel⟩
abbrev s_once : Stmt := topS 53
theorem sc_once : FnScope ["tags", "tag"] ["tags", "tag"] (defScope s_once) := ⟨rfl, rfl, rfl, by decide +kernel, rfl, by decide +kernel, by decide +kernel⟩
abbrev s_exchange : Stmt := topS 54
theorem sc_exchange : FnScope ["tags", "pairs", "ways", "standings", "tag", "another"] ["tags", "pairs"] (defScope s_exchange) := ⟨rfl, rfl, rfl, by decide +kernel, rfl, by decide +kernel, by decide +kernel⟩
abbrev s_press : Stmt := topS 55
theorem sc_press : FnScope ["tags", "tag", "most", "standings", "left"] ["tags", "tag", "most"] (defScope s_press) := ⟨rfl, rfl, rfl, by decide +kernel, rfl, by decide +kernel, by decide +kernel⟩
abbrev s__law_mixed : Stmt := topS 57
theorem sc__law_mixed : FnScope ["cell", "k", "figure"] ["cell", "k"] (defScope s__law_mixed) := ⟨rfl, rfl, rfl, by decide +kernel, rfl, by decide +kernel, by decide +kernel⟩
abbrev s__law_pile : Stmt := topS 58
theorem sc__law_pile : FnScope ["script", "k", "cell", "digits"] ["script", "k"] (defScope s__law_pile) := ⟨rfl, rfl, rfl, by decide +kernel, rfl, by decide +kernel, by decide +kernel⟩
abbrev s__law_take : Stmt := topS 59
theorem sc__law_take : FnScope ["pile", "many", "digit"] ["pile", "many"] (defScope s__law_take) := ⟨rfl, rfl, rfl, by decide +kernel, rfl, by decide +kernel, by decide +kernel⟩
abbrev s__law_tags : Stmt := topS 60
theorem sc__law_tags : FnScope ["pile", "many", "letters", "stem", "at", "shift", "pace", "plain", "tail", "some", "k", "name"] ["pile", "many"] (defScope s__law_tags) := ⟨rfl, rfl, rfl, by decide +kernel, rfl, by decide +kernel, by decide +kernel⟩
abbrev s__law_done : Stmt := topS 61
theorem sc__law_done : FnScope ["way", "tags", "one", "two"] ["way", "tags", "one", "two"] (defScope s__law_done) := ⟨rfl, rfl, rfl, by decide +kernel, rfl, by decide +kernel, by decide +kernel⟩
abbrev s__law_told : Stmt := topS 62
theorem sc__law_told : FnScope ["way", "tags", "one", "two", "error", "e"] ["way", "tags", "one", "two"] (defScope s__law_told) := ⟨rfl, rfl, rfl, by decide +kernel, rfl, by decide +kernel, by decide +kernel⟩
abbrev s__law_is_tag : Stmt := topS 63
theorem sc__law_is_tag : FnScope ["tags", "thing"] ["tags", "thing"] (defScope s__law_is_tag) := ⟨rfl, rfl, rfl, by decide +kernel, rfl, by decide +kernel, by decide +kernel⟩
abbrev s__law_tags_due : Stmt := topS 64
theorem sc__law_tags_due : FnScope ["tags", "letters", "k", "thing", "letter"] ["tags"] (defScope s__law_tags_due) := ⟨rfl, rfl, rfl, by decide +kernel, rfl, by decide +kernel, by decide +kernel⟩
abbrev s__law_list_due : Stmt := topS 65
theorem sc__law_list_due : FnScope ["tags", "thing", "most", "twice", "k", "tag"] ["tags", "thing", "most", "twice"] (defScope s__law_list_due) := ⟨rfl, rfl, rfl, by decide +kernel, rfl, by decide +kernel, by decide +kernel⟩
abbrev s__law_pairs_due : Stmt := topS 66
theorem sc__law_pairs_due : FnScope ["tags", "thing", "k", "pair", "other", "tag"] ["tags", "thing"] (defScope s__law_pairs_due) := ⟨rfl, rfl, rfl, by decide +kernel, rfl, by decide +kernel, by decide +kernel⟩
abbrev s__law_number_due : Stmt := topS 67
theorem sc__law_number_due : FnScope ["thing"] ["thing"] (defScope s__law_number_due) := ⟨rfl, rfl, rfl, by decide +kernel, rfl, by decide +kernel, by decide +kernel⟩
abbrev s__law_due : Stmt := topS 68
theorem sc__law_due : FnScope ["way", "tags", "one", "two", "found", "due"] ["way", "tags", "one", "two"] (defScope s__law_due) := ⟨rfl, rfl, rfl, by decide +kernel, rfl, by decide +kernel, by decide +kernel⟩
abbrev s__law_things : Stmt := topS 69
theorem sc__law_things : FnScope ["pile", "tags", "odd", "some", "at", "pairs", "bent", "menu", "one", "two", "book", "turn", "tag"] ["pile", "tags"] (defScope s__law_things) := ⟨rfl, rfl, rfl, by decide +kernel, rfl, by decide +kernel, by decide +kernel⟩
abbrev s_law : Stmt := topS 70
theorem sc_law : FnScope ["script", "k", "pile", "tags", "turn", "book", "one", "two", "before", "way", "due"] ["script"] (defScope s_law) := ⟨rfl, rfl, rfl, by decide +kernel, rfl, by decide +kernel, by decide +kernel⟩
structure TX (K : PySem.W.Frag) (mg : Str → Option Value) : Type where
  n_ValueError : mg "ValueError" = none
  n_abs : mg "abs" = none
  n_all : mg "all" = none
  n_any : mg "any" = none
  n_bool : mg "bool" = none
  n_enumerate : mg "enumerate" = none
  n_int : mg "int" = none
  n_isinstance : mg "isinstance" = none
  n_len : mg "len" = none
  n_list : mg "list" = none
  n_max : mg "max" = none
  n_range : mg "range" = none
  n_repr : mg "repr" = none
  n_sorted : mg "sorted" = none
  n_str : mg "str" = none
  n_tuple : mg "tuple" = none
  n_zip : mg "zip" = none
  c_LETTERS : ∃ u, mg "LETTERS" = some u ∧ RelV (.str "abcdefghijklmnopqrstuvwxyz") u
  c_MOST_LETTERS : ∃ u, mg "MOST_LETTERS" = some u ∧ RelV (.int 8) u
  c_MOST_TAGS : ∃ u, mg "MOST_TAGS" = some u ∧ RelV (.int 6) u
  c_MOST_STANDINGS : ∃ u, mg "MOST_STANDINGS" = some u ∧ RelV (.int 30) u
  c_LONGEST_WORD : ∃ u, mg "LONGEST_WORD" = some u ∧ RelV (.int 8) u
  c_LONGEST_SUBJECT : ∃ u, mg "LONGEST_SUBJECT" = some u ∧ RelV (.int 200) u
  c_LARGEST_MOST : ∃ u, mg "LARGEST_MOST" = some u ∧ RelV (.int 20) u
  d__wall : QB.TopAt K mg "_wall" s__wall ["k"]
  d_is_number : QB.TopAt K mg "is_number" s_is_number ["x", "least", "most"]
  d_is_list : QB.TopAt K mg "is_list" s_is_list ["x", "least", "most"]
  d_is_name : QB.TopAt K mg "is_name" s_is_name ["x"]
  d_is_tag : QB.TopAt K mg "is_tag" s_is_tag ["tags", "x"]
  d_is_subject : QB.TopAt K mg "is_subject" s_is_subject ["tags", "x"]
  d_is_standing : QB.TopAt K mg "is_standing" s_is_standing ["tags", "many", "x"]
  d_check_tags : QB.TopAt K mg "check_tags" s_check_tags ["tags"]
  d_check_word : QB.TopAt K mg "check_word" s_check_word ["tags", "word", "most"]
  d_check_standings : QB.TopAt K mg "check_standings" s_check_standings ["tags", "standings"]
  d_check_number : QB.TopAt K mg "check_number" s_check_number ["number", "most"]
  d_no_ways : QB.TopAt K mg "no_ways" s_no_ways ["tags"]
  d_walked : QB.TopAt K mg "walked" s_walked ["tags", "standings", "word"]
  d_made : QB.TopAt K mg "made" s_made ["tags", "standings", "subject"]
  d_is_settled_at : QB.TopAt K mg "is_settled_at" s_is_settled_at ["standing"]
  d_is_made_at : QB.TopAt K mg "is_made_at" s_is_made_at ["tags", "standing", "subject"]
  d_copied : QB.TopAt K mg "copied" s_copied ["standings"]
  d_without_needless_ways : QB.TopAt K mg "without_needless_ways" s_without_needless_ways ["tags", "standings"]
  d_numbered : QB.TopAt K mg "numbered" s_numbered ["marks"]
  d_parted : QB.TopAt K mg "parted" s_parted ["classes", "standings"]
  d_alike_classes : QB.TopAt K mg "alike_classes" s_alike_classes ["standings"]
  d_in_order_met : QB.TopAt K mg "in_order_met" s_in_order_met ["standings", "classes"]
  d_least_form : QB.TopAt K mg "least_form" s_least_form ["tags", "standings"]
  d_eater_of : QB.TopAt K mg "eater_of" s_eater_of ["tags", "form"]
  d_check_tag : QB.TopAt K mg "check_tag" s_check_tag ["tags", "tag"]
  d_check_some : QB.TopAt K mg "check_some" s_check_some ["tags", "some"]
  d_is_pair : QB.TopAt K mg "is_pair" s_is_pair ["tags", "x"]
  d_check_pairs : QB.TopAt K mg "check_pairs" s_check_pairs ["tags", "pairs"]
  d_ways_for : QB.TopAt K mg "ways_for" s_ways_for ["tags", "some", "to"]
  d_keep : QB.TopAt K mg "keep" s_keep ["tags"]
  d_put : QB.TopAt K mg "put" s_put ["tags", "word"]
  d_strip : QB.TopAt K mg "strip" s_strip ["tags", "some", "most"]
  d_once : QB.TopAt K mg "once" s_once ["tags", "tag"]
  d_exchange : QB.TopAt K mg "exchange" s_exchange ["tags", "pairs"]
  d_press : QB.TopAt K mg "press" s_press ["tags", "tag", "most"]
  d__law_mixed : QB.TopAt K mg "_law_mixed" s__law_mixed ["cell", "k"]
  d__law_pile : QB.TopAt K mg "_law_pile" s__law_pile ["script", "k"]
  d__law_take : QB.TopAt K mg "_law_take" s__law_take ["pile", "many"]
  d__law_tags : QB.TopAt K mg "_law_tags" s__law_tags ["pile", "many"]
  d__law_done : QB.TopAt K mg "_law_done" s__law_done ["way", "tags", "one", "two"]
  d__law_told : QB.TopAt K mg "_law_told" s__law_told ["way", "tags", "one", "two"]
  d__law_is_tag : QB.TopAt K mg "_law_is_tag" s__law_is_tag ["tags", "thing"]
  d__law_tags_due : QB.TopAt K mg "_law_tags_due" s__law_tags_due ["tags"]
  d__law_list_due : QB.TopAt K mg "_law_list_due" s__law_list_due ["tags", "thing", "most", "twice"]
  d__law_pairs_due : QB.TopAt K mg "_law_pairs_due" s__law_pairs_due ["tags", "thing"]
  d__law_number_due : QB.TopAt K mg "_law_number_due" s__law_number_due ["thing"]
  d__law_due : QB.TopAt K mg "_law_due" s__law_due ["way", "tags", "one", "two"]
  d__law_things : QB.TopAt K mg "_law_things" s__law_things ["pile", "tags"]
  d_law : QB.TopAt K mg "law" s_law ["script"]
  lam_c : Addr
  lam_P : Addr
  lam_F : QB.FunC K "without_needless_ways" "without_needless_ways" s_without_needless_ways d_without_needless_ways.a d_without_needless_ways.fd lam_c
  e_TagError : Addr
  me_TagError : mg "TagError" = some (.ref e_TagError)
  e_InvalidTags : Addr
  me_InvalidTags : mg "InvalidTags" = some (.ref e_InvalidTags)
  d_InvalidTags___init__ : QB.DefAt K "__init__" "InvalidTags.__init__" s_InvalidTags___init__ ["self", "index"]
  xt_InvalidTags : QX.ExcT K e_InvalidTags d_InvalidTags___init__.a "index"
  e_InvalidSubject : Addr
  me_InvalidSubject : mg "InvalidSubject" = some (.ref e_InvalidSubject)
  d_InvalidSubject___init__ : QB.DefAt K "__init__" "InvalidSubject.__init__" s_InvalidSubject___init__ ["self", "index"]
  xt_InvalidSubject : QX.ExcT K e_InvalidSubject d_InvalidSubject___init__.a "index"
  e_InvalidEater : Addr
  me_InvalidEater : mg "InvalidEater" = some (.ref e_InvalidEater)
  d_InvalidEater___init__ : QB.DefAt K "__init__" "InvalidEater.__init__" s_InvalidEater___init__ ["self", "index"]
  xt_InvalidEater : QX.ExcT K e_InvalidEater d_InvalidEater___init__.a "index"
  e_InvalidTag : Addr
  me_InvalidTag : mg "InvalidTag" = some (.ref e_InvalidTag)
  d_InvalidTag___init__ : QB.DefAt K "__init__" "InvalidTag.__init__" s_InvalidTag___init__ ["self", "tag"]
  xt_InvalidTag : QX.ExcT K e_InvalidTag d_InvalidTag___init__.a "tag"
  e_InvalidPairs : Addr
  me_InvalidPairs : mg "InvalidPairs" = some (.ref e_InvalidPairs)
  d_InvalidPairs___init__ : QB.DefAt K "__init__" "InvalidPairs.__init__" s_InvalidPairs___init__ ["self", "index"]
  xt_InvalidPairs : QX.ExcT K e_InvalidPairs d_InvalidPairs___init__.a "index"
  e_InvalidNumber : Addr
  me_InvalidNumber : mg "InvalidNumber" = some (.ref e_InvalidNumber)
  d_InvalidNumber___init__ : QB.DefAt K "__init__" "InvalidNumber.__init__" s_InvalidNumber___init__ ["self", "number"]
  xt_InvalidNumber : QX.ExcT K e_InvalidNumber d_InvalidNumber___init__.a "number"
  e_TooMany : Addr
  me_TooMany : mg "TooMany" = some (.ref e_TooMany)
  d_TooMany___init__ : QB.DefAt K "__init__" "TooMany.__init__" s_TooMany___init__ ["self", "limit"]
  xt_TooMany : QX.ExcT K e_TooMany d_TooMany___init__.a "limit"
  ex_InvalidTags : PySem.W.exmOne K (.ref e_InvalidTags) (.ref e_TagError) = some true
  kv_InvalidTags : PySem.W.kitOne K (.ref e_InvalidTags) (.type "ValueError") = some true
  ki_InvalidTags_TagError : PySem.W.kitOne K (.ref e_InvalidTags) (.ref e_TagError) = some true
  ki_InvalidTags_InvalidTags : PySem.W.kitOne K (.ref e_InvalidTags) (.ref e_InvalidTags) = some true
  ki_InvalidTags_InvalidSubject : PySem.W.kitOne K (.ref e_InvalidTags) (.ref e_InvalidSubject) = some false
  ki_InvalidTags_InvalidEater : PySem.W.kitOne K (.ref e_InvalidTags) (.ref e_InvalidEater) = some false
  ki_InvalidTags_InvalidTag : PySem.W.kitOne K (.ref e_InvalidTags) (.ref e_InvalidTag) = some false
  ki_InvalidTags_InvalidPairs : PySem.W.kitOne K (.ref e_InvalidTags) (.ref e_InvalidPairs) = some false
  ki_InvalidTags_InvalidNumber : PySem.W.kitOne K (.ref e_InvalidTags) (.ref e_InvalidNumber) = some false
  ki_InvalidTags_TooMany : PySem.W.kitOne K (.ref e_InvalidTags) (.ref e_TooMany) = some false
  ex_InvalidSubject : PySem.W.exmOne K (.ref e_InvalidSubject) (.ref e_TagError) = some true
  kv_InvalidSubject : PySem.W.kitOne K (.ref e_InvalidSubject) (.type "ValueError") = some true
  ki_InvalidSubject_TagError : PySem.W.kitOne K (.ref e_InvalidSubject) (.ref e_TagError) = some true
  ki_InvalidSubject_InvalidTags : PySem.W.kitOne K (.ref e_InvalidSubject) (.ref e_InvalidTags) = some false
  ki_InvalidSubject_InvalidSubject : PySem.W.kitOne K (.ref e_InvalidSubject) (.ref e_InvalidSubject) = some true
  ki_InvalidSubject_InvalidEater : PySem.W.kitOne K (.ref e_InvalidSubject) (.ref e_InvalidEater) = some false
  ki_InvalidSubject_InvalidTag : PySem.W.kitOne K (.ref e_InvalidSubject) (.ref e_InvalidTag) = some false
  ki_InvalidSubject_InvalidPairs : PySem.W.kitOne K (.ref e_InvalidSubject) (.ref e_InvalidPairs) = some false
  ki_InvalidSubject_InvalidNumber : PySem.W.kitOne K (.ref e_InvalidSubject) (.ref e_InvalidNumber) = some false
  ki_InvalidSubject_TooMany : PySem.W.kitOne K (.ref e_InvalidSubject) (.ref e_TooMany) = some false
  ex_InvalidEater : PySem.W.exmOne K (.ref e_InvalidEater) (.ref e_TagError) = some true
  kv_InvalidEater : PySem.W.kitOne K (.ref e_InvalidEater) (.type "ValueError") = some true
  ki_InvalidEater_TagError : PySem.W.kitOne K (.ref e_InvalidEater) (.ref e_TagError) = some true
  ki_InvalidEater_InvalidTags : PySem.W.kitOne K (.ref e_InvalidEater) (.ref e_InvalidTags) = some false
  ki_InvalidEater_InvalidSubject : PySem.W.kitOne K (.ref e_InvalidEater) (.ref e_InvalidSubject) = some false
  ki_InvalidEater_InvalidEater : PySem.W.kitOne K (.ref e_InvalidEater) (.ref e_InvalidEater) = some true
  ki_InvalidEater_InvalidTag : PySem.W.kitOne K (.ref e_InvalidEater) (.ref e_InvalidTag) = some false
  ki_InvalidEater_InvalidPairs : PySem.W.kitOne K (.ref e_InvalidEater) (.ref e_InvalidPairs) = some false
  ki_InvalidEater_InvalidNumber : PySem.W.kitOne K (.ref e_InvalidEater) (.ref e_InvalidNumber) = some false
  ki_InvalidEater_TooMany : PySem.W.kitOne K (.ref e_InvalidEater) (.ref e_TooMany) = some false
  ex_InvalidTag : PySem.W.exmOne K (.ref e_InvalidTag) (.ref e_TagError) = some true
  kv_InvalidTag : PySem.W.kitOne K (.ref e_InvalidTag) (.type "ValueError") = some true
  ki_InvalidTag_TagError : PySem.W.kitOne K (.ref e_InvalidTag) (.ref e_TagError) = some true
  ki_InvalidTag_InvalidTags : PySem.W.kitOne K (.ref e_InvalidTag) (.ref e_InvalidTags) = some false
  ki_InvalidTag_InvalidSubject : PySem.W.kitOne K (.ref e_InvalidTag) (.ref e_InvalidSubject) = some false
  ki_InvalidTag_InvalidEater : PySem.W.kitOne K (.ref e_InvalidTag) (.ref e_InvalidEater) = some false
  ki_InvalidTag_InvalidTag : PySem.W.kitOne K (.ref e_InvalidTag) (.ref e_InvalidTag) = some true
  ki_InvalidTag_InvalidPairs : PySem.W.kitOne K (.ref e_InvalidTag) (.ref e_InvalidPairs) = some false
  ki_InvalidTag_InvalidNumber : PySem.W.kitOne K (.ref e_InvalidTag) (.ref e_InvalidNumber) = some false
  ki_InvalidTag_TooMany : PySem.W.kitOne K (.ref e_InvalidTag) (.ref e_TooMany) = some false
  ex_InvalidPairs : PySem.W.exmOne K (.ref e_InvalidPairs) (.ref e_TagError) = some true
  kv_InvalidPairs : PySem.W.kitOne K (.ref e_InvalidPairs) (.type "ValueError") = some true
  ki_InvalidPairs_TagError : PySem.W.kitOne K (.ref e_InvalidPairs) (.ref e_TagError) = some true
  ki_InvalidPairs_InvalidTags : PySem.W.kitOne K (.ref e_InvalidPairs) (.ref e_InvalidTags) = some false
  ki_InvalidPairs_InvalidSubject : PySem.W.kitOne K (.ref e_InvalidPairs) (.ref e_InvalidSubject) = some false
  ki_InvalidPairs_InvalidEater : PySem.W.kitOne K (.ref e_InvalidPairs) (.ref e_InvalidEater) = some false
  ki_InvalidPairs_InvalidTag : PySem.W.kitOne K (.ref e_InvalidPairs) (.ref e_InvalidTag) = some false
  ki_InvalidPairs_InvalidPairs : PySem.W.kitOne K (.ref e_InvalidPairs) (.ref e_InvalidPairs) = some true
  ki_InvalidPairs_InvalidNumber : PySem.W.kitOne K (.ref e_InvalidPairs) (.ref e_InvalidNumber) = some false
  ki_InvalidPairs_TooMany : PySem.W.kitOne K (.ref e_InvalidPairs) (.ref e_TooMany) = some false
  ex_InvalidNumber : PySem.W.exmOne K (.ref e_InvalidNumber) (.ref e_TagError) = some true
  kv_InvalidNumber : PySem.W.kitOne K (.ref e_InvalidNumber) (.type "ValueError") = some true
  ki_InvalidNumber_TagError : PySem.W.kitOne K (.ref e_InvalidNumber) (.ref e_TagError) = some true
  ki_InvalidNumber_InvalidTags : PySem.W.kitOne K (.ref e_InvalidNumber) (.ref e_InvalidTags) = some false
  ki_InvalidNumber_InvalidSubject : PySem.W.kitOne K (.ref e_InvalidNumber) (.ref e_InvalidSubject) = some false
  ki_InvalidNumber_InvalidEater : PySem.W.kitOne K (.ref e_InvalidNumber) (.ref e_InvalidEater) = some false
  ki_InvalidNumber_InvalidTag : PySem.W.kitOne K (.ref e_InvalidNumber) (.ref e_InvalidTag) = some false
  ki_InvalidNumber_InvalidPairs : PySem.W.kitOne K (.ref e_InvalidNumber) (.ref e_InvalidPairs) = some false
  ki_InvalidNumber_InvalidNumber : PySem.W.kitOne K (.ref e_InvalidNumber) (.ref e_InvalidNumber) = some true
  ki_InvalidNumber_TooMany : PySem.W.kitOne K (.ref e_InvalidNumber) (.ref e_TooMany) = some false
  ex_TooMany : PySem.W.exmOne K (.ref e_TooMany) (.ref e_TagError) = some true
  kv_TooMany : PySem.W.kitOne K (.ref e_TooMany) (.type "ValueError") = some true
  ki_TooMany_TagError : PySem.W.kitOne K (.ref e_TooMany) (.ref e_TagError) = some true
  ki_TooMany_InvalidTags : PySem.W.kitOne K (.ref e_TooMany) (.ref e_InvalidTags) = some false
  ki_TooMany_InvalidSubject : PySem.W.kitOne K (.ref e_TooMany) (.ref e_InvalidSubject) = some false
  ki_TooMany_InvalidEater : PySem.W.kitOne K (.ref e_TooMany) (.ref e_InvalidEater) = some false
  ki_TooMany_InvalidTag : PySem.W.kitOne K (.ref e_TooMany) (.ref e_InvalidTag) = some false
  ki_TooMany_InvalidPairs : PySem.W.kitOne K (.ref e_TooMany) (.ref e_InvalidPairs) = some false
  ki_TooMany_InvalidNumber : PySem.W.kitOne K (.ref e_TooMany) (.ref e_InvalidNumber) = some false
  ki_TooMany_TooMany : PySem.W.kitOne K (.ref e_TooMany) (.ref e_TooMany) = some true
  c_Eater : Addr
  m_Eater : mg "Eater" = some (.ref c_Eater)
  cl_Eater : Cls K c_Eater
  oc_Eater : QO.OwnC K c_Eater
  d_Eater___init__ : QB.DefAt K "__init__" "Eater.__init__" s_Eater___init__ ["self", "tags", "standings"]
  d_Eater___len__ : QB.DefAt K "__len__" "Eater.__len__" s_Eater___len__ ["self"]
  h_Eater___len__ : Meth K c_Eater "__len__" d_Eater___len__.a
  d_Eater___eq__ : QB.DefAt K "__eq__" "Eater.__eq__" s_Eater___eq__ ["self", "other"]
  h_Eater___eq__ : Meth K c_Eater "__eq__" d_Eater___eq__.a
  d_Eater___contains__ : QB.DefAt K "__contains__" "Eater.__contains__" s_Eater___contains__ ["self", "x"]
  h_Eater___contains__ : Meth K c_Eater "__contains__" d_Eater___contains__.a
  d_Eater_tags : QB.DefAt K "tags" "Eater.tags" s_Eater_tags ["self"]
  h_Eater_tags : Meth K c_Eater "tags" d_Eater_tags.a
  d_Eater_standings : QB.DefAt K "standings" "Eater.standings" s_Eater_standings ["self"]
  h_Eater_standings : Meth K c_Eater "standings" d_Eater_standings.a
  d_Eater_on : QB.DefAt K "on" "Eater.on" s_Eater_on ["self", "subject"]
  h_Eater_on : Meth K c_Eater "on" d_Eater_on.a
  d_Eater_settled : QB.DefAt K "settled" "Eater.settled" s_Eater_settled ["self", "word"]
  h_Eater_settled : Meth K c_Eater "settled" d_Eater_settled.a
  d_Eater_then : QB.DefAt K "then" "Eater.then" s_Eater_then ["self", "other"]
  h_Eater_then : Meth K c_Eater "then" d_Eater_then.a
  d_Eater_power : QB.DefAt K "power" "Eater.power" s_Eater_power ["self", "times"]
  h_Eater_power : Meth K c_Eater "power" d_Eater_power.a
  mk_Eater : Mk K c_Eater d_Eater___init__.a
  na_Eater__standings : NoAttr K c_Eater "_standings"
  na_Eater__tags : NoAttr K c_Eater "_tags"
section
variable {P : Program} {w : World} {K : PySem.W.Frag} {mg : Str → Option Value} {base : Heap}

def spWalked (K : PySem.W.Frag) : Sp := fun vs H Q _ => ∃ (a b c : Addr) (tags : List Str) (F : Form) (wd : Word), vs = [.ref a, .ref b, .ref c] ∧ WordAt H a tags ∧ FormAt H b F ∧ WordAt H c wd ∧ Good tags F ∧ (∀ t ∈ wd, t ∈ tags) ∧ wd.length ≤ 100000 ∧
  ∀ (p : Addr) (H' : Hp), Same H H' → H p = none → H' p = some (.tup [.int ((walk tags F wd).1 : Int), .int ((walk tags F wd).2 : Int)]) → Q (.ref p) H'
theorem ok_walked (X : TX K mg) : FnOk P w K mg base CX0 1 X.d_walked.a X.d_walked.fd ["tags", "standings", "word"] (spWalked K) := by
  have nd := sc_walked.nd
  refine X.d_walked.F.ok sc_walked (fun vs H Q E h => ?_) (fun cdv A outer s H vs Q E hr h => ?_)
  · obtain ⟨a, b, c, tags, F, wd, rfl, _⟩ := h
    rfl
  · obtain ⟨a, b, c, tags, F, wd, rfl, hT, hF, hw, g, hin, hz, k⟩ := h
    refine ⟨_, (pss_cons (ps_set (i := 3) nd rfl (Or.inl rfl) pe_int) (pss_cons (ps_for PassesOwn.never rfl (QB.pi_enumK K (by rfl) X.n_enumerate (pa_cons (pv 2) pa_nil)) (pg_tup (by rfl) (pgs_cons (pg_name (i := 4) nd rfl (Or.inl rfl)) (pgs_cons (pg_name (i := 5) nd rfl (Or.inl rfl)) (pgs_nil)))) (pss_cons (ps_set (i := 6) nd rfl (Or.inl rfl) (pe_ix (QB.ix_listK K) (pe_ix (QB.ix_tupK K) (pe_ix (QB.ix_listK K) (pv 1) (pv 3) (fun _ _ => rfl)) pe_int (fun _ _ => rfl)) (QB.pe_bmK K PySem.F.plainAttrs_list PySem.F.slot_list_index PySem.F.type_list_index (QB.mt_indexK K) (pv 0) (pa_cons (pv 5) pa_nil)) (fun _ _ => rfl))) (pss_cons (ps_if (pt_cmpR op_isN (pv 6) pe_non (nomark _)) (pss_one (ps_ret (pe_tup (pa_cons (pv 3) (pa_cons (pv 4) pa_nil))))) pss_nil) (pss_one (ps_set (i := 3) nd rfl (Or.inl rfl) (pv 6)))))) (pss_one (ps_ret (pe_tup (pa_cons (pv 3) (pa_cons (pe_callB (QB.call_lenK K) (by rfl) X.n_len PySem.boot_len (pa_cons (pv 2) pa_nil)) pa_nil))))))), ?_⟩
    try dsimp only [Cx.nox, Cx.wish, cxOf]
    refine ⟨_, rfl, _, _, rfl, SqL.of hw, ?_⟩
    refine for_it (walk_enumW (K := K) (a := c) (w := wd)) (fun i σ H' => ∃ (at_ : Nat) (v4 v5 v6 : Option V), σ = [some (.ref a), some (.ref b), some (.ref c), some (.int (at_ : Int)), v4, v5, v6] ∧ Same H H' ∧ at_ < F.length ∧ walkFrom tags F at_ i (wd.drop i) = walk tags F wd)
      ⟨0, none, none, none, rfl, Same.refl H, g.pos, rfl⟩ (fun i σ H' _ ⟨_, _, _, _, _, s1, _⟩ => Same.word s1 hw) ?_ ?_
    · rintro i v σ H1 H2 hi ⟨at_, v4, v5, v6, rfl, s1, hat, hwk⟩ ⟨tp, x, hx, ntp, rfl, rfl⟩
      have s2 : Same H (upd H1 tp (.tup [.int (i : Int), .str x])) := Same.new s1 ntp
      have eF : F[at_]? = some F[at_] := by simp [hat]
      have hxt : x ∈ tags := hin x (List.mem_of_getElem? hx)
      obtain ⟨vs, t, p1, p2, f1, f2, f3, f4, f5, f6⟩ := (Same.form s2 hF).at eF
      have ed : wd.drop i = x :: wd.drop (i + 1) := (List.drop_eq_getElem_cons hi).trans (by rw [List.getElem?_eq_getElem hi] at hx; rw [Option.some.inj hx])
      rw [ed] at hwk
      unfold walkFrom at hwk
      rw [wayAt_of eF] at hwk
      refine ⟨tp, _, rfl, SqT.of upd_same, rfl, _, _, rfl, _, _, rfl, rfl, ?_⟩
      refine ⟨_, rfl, _, rfl, _, _, _, _, rfl, rfl, SqL.of f1, atI_nat f3, _, _, _, _, rfl, rfl, SqT.of f4, rfl, ?_⟩
      refine ⟨_, rfl, .inl ⟨rfl, _, SqL.of (Same.word s2 hT)⟩, _, rfl, ?_⟩
      dsimp only [tNil]
      refine index_word (Same.word s2 hT) hxt ?_
      refine ⟨_, _, _, _, rfl, rfl, SqL.of f6, atI_nat (vWs_get (g.way eF hxt)), ?_⟩
      refine ⟨_, rfl, rfl, _, rfl, ?_⟩
      cases e : way tags F[at_] x with
      | none =>
        rw [e] at hwk
        refine iteT ?_
        refine ⟨_, rfl, _, rfl, (by show 2 ≤ sizeLine; decide), fun p hp => ?_⟩
        refine k p _ (Same.new s2 hp) (Same.free s2 hp) ?_
        rw [← hwk]
        exact upd_same
      | some n =>
        rw [e] at hwk
        refine iteF ?_
        exact ⟨_, rfl, n, _, _, _, rfl, s2, g.wayLt eF hxt e, hwk⟩
    · rintro σ H1 ⟨at_, v4, v5, v6, rfl, s1, hat, hwk⟩
      rw [List.drop_length] at hwk
      refine ⟨_, rfl, _, rfl, _, _, rfl, .inl (SqL.of (Same.word s1 hw)), (by show 2 ≤ sizeLine; decide), fun p hp => ?_⟩
      refine k p _ (Same.new s1 hp) (Same.free s1 hp) ?_
      rw [← hwk, vS_len]
      exact upd_same

def spMade : Sp := fun vs H Q _ => ∃ (a b c : Addr) (tags : List Str) (F : Form) (wd : Word), vs = [.ref a, .ref b, .ref c] ∧ WordAt H a tags ∧ FormAt H b F ∧ WordAt H c wd ∧ Good tags F ∧ (∀ t ∈ wd, t ∈ tags) ∧ wd.length ≤ 10000 ∧ (∀ s ∈ F, s.1.length ≤ 10000) ∧
  ∀ (p : Addr) (H' : Hp), Same H H' → H p = none → H' p = some (.lst (vS (make tags F wd))) → Q (.ref p) H'
theorem ok_made (X : TX K mg) : FnOk P w K mg base CX0 2 X.d_made.a X.d_made.fd ["tags", "standings", "subject"] spMade := by
  have nd := sc_made.nd
  refine X.d_made.F.ok sc_made (fun vs H Q E h => ?_) (fun cdv A outer s H vs Q E hr h => ?_)
  · obtain ⟨a, b, c, tags, F, wd, rfl, _⟩ := h
    rfl
  · obtain ⟨a, b, c, tags, F, wd, rfl, hT, hF, hw, g, hin, hz, hz2, k⟩ := h
    refine ⟨_, (pss_cons (ps_asg (pe_call (ok_walked X) (hr.mono (by decide)) rfl X.d_walked.mg X.d_walked.F.kp X.d_walked.b .nil pass0 (pa_cons (pv 0) (pa_cons (pv 1) (pa_cons (pv 2) pa_nil)))) (pg_tup (by rfl) (pgs_cons (pg_name (i := 3) nd rfl (Or.inl rfl)) (pgs_cons (pg_name (i := 4) nd rfl (Or.inl rfl)) (pgs_nil))))) (pss_one (ps_ret (pe_op op_cat (pe_ix (QB.ix_tupK K) (pe_ix (QB.ix_listK K) (pv 1) (pv 3) (fun _ _ => rfl)) pe_int (fun _ _ => rfl)) (pe_slice (QB.sl_listK K) (pv 2) (po_some (pv 4)) po_none))))), ?_⟩
    try dsimp only [Cx.nox, Cx.wish, cxOf]
    refine ⟨_, rfl, _, rfl, _, rfl, ?_⟩
    refine ⟨a, b, c, tags, F, wd, rfl, hT, hF, hw, g, hin, Nat.le_trans hz (by decide), fun tp H1 s1 ntp h1 => ?_⟩
    refine ⟨tp, _, rfl, SqT.of h1, rfl, _, _, rfl, _, _, rfl, rfl, ?_⟩
    have hwl := (walk_lt g hin).1
    have eF : F[(walk tags F wd).1]? = some F[(walk tags F wd).1] := List.getElem?_eq_getElem hwl
    obtain ⟨vs, t, p1, p2, f1, f2, f3, f4, f5, f6⟩ := (Same.form s1 hF).at eF
    refine ⟨_, rfl, _, rfl, _, _, _, _, rfl, rfl, SqL.of f1, atI_nat f3, _, _, _, _, rfl, rfl, SqT.of f4, rfl, ?_⟩
    refine ⟨_, rfl, _, rfl, _, rfl, _, _, rfl, SqL.of (Same.word s1 hw), fun q hq => ?_⟩
    rw [cut_drop, vS_drop]
    refine ⟨_, _, _, _, rfl, rfl, Eq.trans (upd_ne (ne_of_none f5 hq)) f5, upd_same, ?_, fun p hp => ?_⟩
    · have z1 := hz2 _ (mem_of eF)
      have z2 : (wd.drop (walk tags F wd).2).length ≤ wd.length := by rw [List.length_drop]; omega
      rw [vS_len, vS_len]
      exact sz_le (by omega)
    · have s2 : Same H (upd H1 q (.lst (vS (wd.drop (walk tags F wd).2)))) := Same.new s1 hq
      refine k p _ (Same.new s2 hp) (Same.free s2 hp) ?_
      rw [upd_same, vS_append]
      unfold make
      rw [wordOf_of eF]

def spSettledAt : Sp := fun vs H Q _ => ∃ (t a b : Addr) (ws : Ways), vs = [.ref t] ∧ H t = some (.tup [.ref a, .ref b]) ∧ WaysAt H b ws ∧ ws.length ≤ 1000 ∧ ∀ H', Same H H' → Q (.bl (ws.all Option.isNone)) H'
theorem ok_is_settled_at (X : TX K mg) : FnOk P w K mg base CX0 1 X.d_is_settled_at.a X.d_is_settled_at.fd ["standing"] spSettledAt := by
  have nd := sc_is_settled_at.nd
  refine X.d_is_settled_at.F.ok sc_is_settled_at (fun vs H Q E h => ?_) (fun cdv A outer s H vs Q E hr h => ?_)
  · obtain ⟨t, a, b, ws, rfl, _⟩ := h
    rfl
  · obtain ⟨t, a, b, ws, rfl, ht, hw, hz, k⟩ := h
    refine ⟨_, (pss_one (ps_ret (pe_callB (QB.cr_allK K rfl) (by rfl) X.n_all QB.bo_all (pa_cons (pe_lc (own := [("way", 1)]) (g := gName 1) (tt := tYes) rfl nd (QB.pi_listK K (pe_ix (QB.ix_tupK K) (pv 0) pe_int (fun _ _ => rfl))) (blkOk_by (N := ["standing", "way"]) (sc := defScope s_is_settled_at) (by decide +kernel)) (fun _ _ _ _ _ => pg_name (i := 1) nd rfl (Or.inl rfl)) (fun _ _ _ _ _ => pts_nil) (fun _ _ _ _ _ => (pe_cmpR op_isN (pv 1) pe_non (nomark _)))) pa_nil)))), ?_⟩
    try dsimp only [Cx.nox, Cx.wish, cxOf]
    refine ⟨_, rfl, _, _, _, _, rfl, rfl, SqT.of ht, rfl, _, rfl, ⟨_, SqL.of hw⟩, fun D hD => ?_⟩
    refine lc_map (walk_listWs (K := K) (a := b) (ws := ws)) hD (by omega) (fun H1 s1 => Same.ways s1 hw) (fun i => .bl ((ws[i]?).join.isNone)) ?_ ?_
    · rintro i x H1 H2 kk hi s1 ⟨y, hy, rfl, rfl⟩ hk
      refine ⟨rfl, _, rfl, rfl, ?_⟩
      have e := hk H2 (Same.refl H2)
      rw [hy] at e
      rw [vW_is]
      exact e
    · intro H1 s1 e
      rw [range_map_get _ ws (fun x => .bl x.isNone) (fun i x hx => by rw [hx]; rfl)] at e
      refine ⟨_, ws.map Option.isNone, rfl, SqL.of (by rw [e, List.map_map]; rfl), ?_⟩
      have e2 := k H1 s1
      rw [List.all_map]
      exact e2
end
end Law
end

section
set_option Elab.async false
set_option linter.all false
set_option maxRecDepth 100000
set_option maxHeartbeats 4000000
namespace Law
open PySem PySem.Spec PyProof.Rows L2 LamX QB QM
section
variable {P : Program} {w : World} {K : PySem.W.Frag} {mg : Str → Option Value} {base : Heap}
def spCopied : Sp := fun vs H Q _ => ∃ (b : Addr) (F : Form), vs = [.ref b] ∧ FormAt H b F ∧ F.length ≤ 10000 ∧ ∀ (p : Addr) (L : List Tri) (H' : Hp), Same H H' → NewF H H' p L F → Q (.ref p) H'
theorem ok_copied (X : TX K mg) : FnOk P w K mg base CX0 1 X.d_copied.a X.d_copied.fd ["standings"] spCopied := by
  have nd := sc_copied.nd
  refine X.d_copied.F.ok sc_copied (fun vs H Q E h => ?_) (fun cdv A outer s H vs Q E hr h => ?_)
  · obtain ⟨b, F, rfl, _⟩ := h
    rfl
  · obtain ⟨b, F, rfl, hF, hz, k⟩ := h
    refine ⟨_, (pss_one (ps_ret (pe_lc (own := [("word", 1), ("ways", 2)]) (g := gTup K 2 (gCons (gName 1) (gCons (gName 2) (gNil)))) (tt := tYes) rfl nd (QB.pi_listK K (pv 0)) (blkOk_by (N := ["standings", "word", "ways"]) (sc := defScope s_copied) (by decide +kernel)) (fun _ _ _ _ _ => pg_tup (by rfl) (pgs_cons (pg_name (i := 1) nd rfl (Or.inl rfl)) (pgs_cons (pg_name (i := 2) nd rfl (Or.inl rfl)) (pgs_nil)))) (fun _ _ _ _ _ => pts_nil) (fun _ _ _ _ _ => (pe_tup (pa_cons (pe_callTy (QB.call_listK K) (by rfl) X.n_list QB.bo_list (pa_cons (pv 1) pa_nil)) (pa_cons (pe_callTy (QB.call_listK K) (by rfl) X.n_list QB.bo_list (pa_cons (pv 2) pa_nil)) pa_nil))))))), ?_⟩
    try dsimp only [Cx.nox, Cx.wish, cxOf]
    obtain ⟨vs, hv, hvl⟩ := FormAt.lst hF
    refine ⟨_, rfl, _, rfl, ⟨_, SqL.of hv⟩, fun D hD => ?_⟩
    refine lc_it (walk_listF (K := K) (p := b) (F := F)) (fun i H' => Same H H' ∧ ∃ L, H' D = some (.lst (L.map fun x => V.ref x.1)) ∧ NewL H H' L (F.take i) ∧ D ∉ inner L)
      ⟨same_new hD, [], upd_same, NewL.nil, by simp [inner]⟩ (fun i H' _ h => Same.form h.1 hF) ?_ ?_
    · rintro i x H1 H2 hi ⟨s1, L, hL, nL, oD⟩ ⟨s, t, a, b', hs, rfl, rfl, h1, h2, h3⟩
      refine ⟨t, _, rfl, SqT.of h1, rfl, _, _, rfl, _, _, rfl, rfl, rfl, ?_⟩
      refine ⟨_, rfl, _, _, rfl, .inl (SqL.of h2), fun p1 hp1 => ?_⟩
      have e1 : Same H2 (upd H2 p1 (.lst (vS s.1))) := same_new hp1
      refine ⟨_, rfl, _, _, rfl, .inl (SqL.of (Same.ways e1 h3)), fun p2 hp2 => ?_⟩
      have e2 := Same.new e1 (o := .lst (vWs s.2)) hp2
      refine ⟨by show 2 ≤ sizeLine; decide, fun p3 hp3 => ?_⟩
      have e3 := Same.new e2 (o := .tup [V.ref p1, V.ref p2]) hp3
      have q1 : (upd (upd (upd H2 p1 (.lst (vS s.1))) p2 (.lst (vWs s.2))) p3 (.tup [V.ref p1, V.ref p2])) p1 = some (.lst (vS s.1)) := by
        rw [upd_ne (ne_of_none ((upd_ne (ne_of_none upd_same hp2)).trans upd_same) hp3), upd_ne (ne_of_none upd_same hp2), upd_same]
      have q2 : (upd (upd (upd H2 p1 (.lst (vS s.1))) p2 (.lst (vWs s.2))) p3 (.tup [V.ref p1, V.ref p2])) p2 = some (.lst (vWs s.2)) := by
        rw [upd_ne (ne_of_none upd_same hp3), upd_same]
      have n2 : H2 p2 = none := e1.free hp2
      have n3 : H2 p3 = none := e2.free hp3
      have n12 : p1 ≠ p2 := ne_of_none upd_same hp2
      have hs' : F.take (i + 1) = F.take i ++ [s] := by rw [List.take_succ, hs]; rfl
      refine ⟨_, e3 _ _ hL, ?_, Same.mut (s1.trans e3) hD, L ++ [(p3, p1, p2)], ?_, ?_, ?_⟩
      · rw [List.length_map, nL.len, List.length_take]
        exact sz_lt (by omega)
      · rw [upd_same, List.map_append]
        rfl
      · rw [hs']
        have n := nL.snoc e3 hp1 n2 n12 (t := p3) (s := s) upd_same q1 q2 (.of (s1.free n3)) (.of (s1.free hp1)) (.of (s1.free n2))
        exact n.upd (e3 _ _ hL) (not_inner_snoc oD (ne_of_none hL hp1) (ne_of_none hL n2))
      · exact not_inner_snoc oD (ne_of_none hL hp1) (ne_of_none hL n2)
    · rintro H1 ⟨s1, L, hL, nL, oD⟩
      rw [List.take_length] at nL
      exact k D L H1 s1 ⟨hL, nL, .of hD, oD⟩

/-- a list of tuples that are keys -/
def MarksAt (H : Hp) (a : Addr) (ks : List NestedKey) : Prop := ∃ bs : List Addr, H a = some (.lst (bs.map V.ref)) ∧ Paired (fun b k => QD.NV H k (.ref b) ∧ k.depth ≤ 8) bs ks
def IntsAt (H : Hp) (a : Addr) (ns : List Nat) : Prop := H a = some (.lst (ns.map fun (n : Nat) => V.int (n : Int)))
def spNumbered : Sp := fun vs H Q _ => ∃ (a : Addr) (ks : List NestedKey), vs = [.ref a] ∧ MarksAt H a ks ∧ ks.length ≤ 10000 ∧ ∀ (p : Addr) (H' : Hp), Same H H' → H p = none → IntsAt H' p (QD.numb ks) → Q (.ref p) H'
theorem ok_numbered (X : TX K mg) : FnOk P w K mg base CX0 1 X.d_numbered.a X.d_numbered.fd ["marks"] spNumbered := by
  have nd := sc_numbered.nd
  refine X.d_numbered.F.ok sc_numbered (fun vs H Q E h => ?_) (fun cdv A outer s H vs Q E hr h => ?_)
  · obtain ⟨a, ks, rfl, _⟩ := h
    rfl
  · obtain ⟨a, ks, rfl, ⟨bs, hb, hbs⟩, hz, k⟩ := h
    refine ⟨_, (pss_cons (ps_set (i := 1) nd rfl (Or.inl rfl) QD.pe_newN) (pss_cons (ps_set (i := 2) nd rfl (Or.inl rfl) (pe_lst pa_nil)) (pss_cons (ps_for PassesOwn.never rfl (QB.pi_listK K (pv 0)) (pg_name (i := 3) nd rfl (Or.inl rfl)) (pss_cons (ps_if (pt_cmp (QD.pc_notinN (hu64 hr) (pv 3) (pv 1))) (pss_one (QD.ps_putN (hu64 hr) (pv 1) (pv 3) (pe_callB QD.call_lenN (by rfl) X.n_len PySem.boot_len (pa_cons (pv 1) pa_nil)) rfl)) pss_nil) (pss_one (ps_expr (QB.pe_bmK K PySem.F.plainAttrs_list PySem.F.slot_list_append PySem.F.type_list_append mt_append (pv 2) (pa_cons (QD.pe_getN (hu64 hr) (pv 1) (pv 3) (fun _ _ => rfl)) pa_nil)))))) (pss_one (ps_ret (pv 2)))))), ?_⟩
    try dsimp only [Cx.nox, Cx.wish, cxOf]
    refine fun d H1 hd o1 dn1 _ => ?_
    have s1 : Same H H1 := fun b u e => by rw [o1 b (ne_of_none e hd)]; exact e
    refine ⟨Nat.zero_le _, fun l hl => ?_⟩
    have hl0 : H l = none := s1.free hl
    have ndl : d ≠ l := by
      obtain ⟨_, xs, h1, _⟩ := dn1
      exact ne_of_none h1 hl
    refine ⟨_, rfl, _, rfl, ⟨_, SqL.of (Eq.trans (upd_ne (ne_of_none (s1 _ _ hb) hl)) (s1 _ _ hb))⟩, ?_⟩
    have hlen := Paired.length hbs
    refine for_it (walk_list (K := K) (a := a) (xs := bs.map V.ref)) (fun i σ H' => ∃ (v3 : Option V), σ = [some (.ref a), some (.ref d), some (.ref l), v3] ∧ Same H H' ∧ QD.DN P w H' d (QD.dictFrom 0 (QD.seenOf (ks.take i))) ∧ IntsAt H' l (QD.numb (ks.take i)))
      ⟨none, rfl, Same.new s1 hl, dn1.to (fun b xs e => (upd_ne (ne_of_none e hl)).trans e) (upd_ne ndl), upd_same⟩ (fun i σ H' _ ⟨_, _, s2, _⟩ => SqL.of (s2 _ _ hb)) ?_ ?_
    · rintro i x σ H2 H3 hi ⟨v3, rfl, s2, dn, hI⟩ ⟨rfl, hx⟩
      rw [List.length_map] at hi
      have hbi : bs[i]? = some bs[i] := List.getElem?_eq_getElem hi
      rw [List.getElem?_map, hbi] at hx
      cases hx
      obtain ⟨m, hm, nv, dp⟩ := paired_get' hbs hbi
      have nv3 : QD.NV H3 m (.ref bs[i]) := nv.to fun b xs e => s2 _ _ e
      have htk : ks.take (i + 1) = ks.take i ++ [m] := by rw [List.take_succ, hm]; rfl
      have hsl := QD.seenOf_len (ks.take i)
      rw [List.length_take] at hsl
      have hIl : (QD.numb (ks.take i)).length ≤ 10000 := by rw [QD.numb_len, List.length_take]; omega
      refine ⟨_, rfl, _, rfl, d, bs[i], _, m, rfl, rfl, dn, nv3, dp, _, rfl, ?_⟩
      rw [QD.valV_dictFrom]
      by_cases hin : m ∈ QD.seenOf (ks.take i)
      · rw [if_pos hin]
        refine ⟨_, rfl, .inl ⟨rfl, _, SqL.of hI⟩, ?_⟩
        refine ⟨_, rfl, _, rfl, d, bs[i], _, m, _, rfl, rfl, dn, nv3, dp, (by rw [QD.valV_dictFrom, if_pos hin]), ?_⟩
        refine ⟨l, _, _, rfl, rfl, hI, sz_lt (by rw [List.length_map]; omega), ?_⟩
        refine ⟨_, rfl, Same.mut s2 hl0, dn.to (fun b xs e => (upd_ne (ne_of e hI (fun z => nomatch z))).trans e) (upd_ne ?_) |> (fun z => by rw [htk, QD.seenOf_snoc]; unfold QD.addSeen; rw [if_pos hin]; exact z), ?_⟩
        · obtain ⟨_, xs, h1, _⟩ := dn
          exact ne_of h1 hI (fun z => nomatch z)
        · rw [htk]
          unfold IntsAt
          rw [upd_same, QD.numb_snoc, List.map_append]
          unfold QD.addSeen
          rw [if_pos hin, Nat.zero_add]
          rfl
      · rw [if_neg hin]
        refine ⟨_, rfl, d, _, rfl, dn, _, rfl, _, rfl, d, bs[i], _, m, rfl, rfl, dn, nv3, dp, sz_lt (by rw [QD.dictFrom_len]; omega), fun H4 o4 dn4 _ => ?_⟩
        rw [QD.dictFrom_len] at dn4
        have dn5 : QD.DN P w H4 d (QD.dictFrom 0 (QD.seenOf (ks.take i) ++ [m])) := by
          have e := QD.putK_dictFrom (n := 0) hin
          rw [Nat.zero_add] at e
          rw [← e]
          exact dn4
        have ndl2 : l ≠ d := by
          obtain ⟨_, xs, h1, _⟩ := dn
          exact (ne_of h1 hI (fun z => nomatch z)).symm
        have hd3 : ∀ b xs, H3 b = some (.tup xs) → H4 b = some (.tup xs) := fun b xs e => by
          obtain ⟨_, ys, h1, _⟩ := dn
          exact (o4 b (ne_of e h1 (fun z => nomatch z))).trans e
        have nv4 := nv3.to hd3
        have hI4 : IntsAt H4 l (QD.numb (ks.take i)) := (o4 l ndl2).trans hI
        have s4 : Same H H4 := fun b u e => (o4 b (ne_of_none e hd)).trans (s2 b u e)
        refine ⟨_, rfl, .inl ⟨rfl, _, SqL.of hI4⟩, ?_⟩
        refine ⟨_, rfl, _, rfl, d, bs[i], _, m, _, rfl, rfl, dn5, nv4, dp, (by rw [QD.valV_dictFrom, if_pos (by simp)]), ?_⟩
        refine ⟨l, _, _, rfl, rfl, hI4, sz_lt (by rw [List.length_map]; omega), ?_⟩
        refine ⟨_, rfl, Same.mut s4 hl0, dn5.to (fun b xs e => (upd_ne (ne_of e hI4 (fun z => nomatch z))).trans e) (upd_ne ndl2.symm) |> (fun z => by rw [htk, QD.seenOf_snoc]; unfold QD.addSeen; rw [if_neg hin]; exact z), ?_⟩
        rw [htk]
        unfold IntsAt
        rw [upd_same, QD.numb_snoc, List.map_append]
        unfold QD.addSeen
        rw [if_neg hin, Nat.zero_add]
        rfl
    · rintro σ H2 ⟨v3, rfl, s2, dn, hI⟩
      rw [List.take_of_length_le (by rw [List.length_map]; omega)] at hI
      exact ⟨_, rfl, k l H2 s2 hl0 hI⟩
end
end Law
end

section
set_option Elab.async false
set_option linter.all false
set_option maxRecDepth 100000
set_option maxHeartbeats 4000000
namespace Law
open PySem PySem.Spec PyProof.Rows L2 LamX QB QM
section
variable {P : Program} {w : World} {K : PySem.W.Frag} {mg : Str → Option Value} {base : Heap}
theorem ints_get {ns : List Nat} {k n : Nat} (h : ns[k]? = some n) : (ns.map fun (n : Nat) => V.int (n : Int))[k]? = some (.int (n : Int)) := by
  rw [List.getElem?_map, h]
  rfl
theorem Same.ints {H H' : Hp} {a : Addr} {ns : List Nat} (e : Same H H') (h : IntsAt H a ns) : IntsAt H' a ns := e _ _ h
theorem Same.marks {H H' : Hp} {a : Addr} {ks : List NestedKey} (e : Same H H') (h : MarksAt H a ks) : MarksAt H' a ks := by
  obtain ⟨bs, h1, h2⟩ := h
  exact ⟨bs, e _ _ h1, L2.Paired.mapP h2 fun b k z => ⟨z.1.to fun c xs e' => e _ _ e', z.2⟩⟩
/-- the standings' ways lead to standings -/
def WaysIn (F : Form) : Prop := ∀ s ∈ F, s.2.length ≤ 100 ∧ ∀ n, some n ∈ s.2 → n < F.length
theorem nvs_ints {H : Hp} (f : α → Int) : ∀ l : List α, QD.NVs H (l.map fun x => NestedKey.num (f x)) (l.map fun x => V.int (f x))
  | [] => .nil
  | _ :: l => .cons (.num _) (nvs_ints f l)
def wayInt (cs : List Nat) : Option Nat → Int
  | none => -1
  | some n => ((cs.getD n 0 : Nat) : Int)
theorem wayNum_eq (cs : List Nat) (w : Option Nat) : wayNum cs w = .num (wayInt cs w) := by cases w <;> rfl
theorem depthAll_num (f : α → Int) : ∀ l : List α, NestedKey.depthAll (l.map fun x => NestedKey.num (f x)) = 0
  | [] => rfl
  | _ :: l => by
    show max (NestedKey.depth (.num _)) (NestedKey.depthAll _) = 0
    rw [depthAll_num f l]
    rfl
def spParted : Sp := fun vs H Q _ => ∃ (a b : Addr) (cs : List Nat) (F : Form), vs = [.ref a, .ref b] ∧ IntsAt H a cs ∧ FormAt H b F ∧ cs.length = F.length ∧ F.length ≤ 5000 ∧ WaysIn F ∧
  ∀ (p : Addr) (H' : Hp), Same H H' → H p = none → IntsAt H' p (part cs F) → Q (.ref p) H'
theorem ok_parted (X : TX K mg) : FnOk P w K mg base CX0 2 X.d_parted.a X.d_parted.fd ["classes", "standings"] spParted := by
  have nd := sc_parted.nd
  refine X.d_parted.F.ok sc_parted (fun vs H Q E h => ?_) (fun cdv A outer s H vs Q E hr h => ?_)
  · obtain ⟨a, b, cs, F, rfl, _⟩ := h
    rfl
  · obtain ⟨a, b, cs, F, rfl, hc, hF, hlen, hz, hin, k⟩ := h
    refine ⟨_, (pss_cons (ps_set (i := 2) nd rfl (Or.inl rfl) (pe_lst pa_nil)) (pss_cons (ps_for PassesOwn.never rfl (QB.pi_zipK K (by rfl) X.n_zip (pa_cons (pv 0) (pa_cons (pv 1) pa_nil))) (pg_tup (by rfl) (pgs_cons (pg_name (i := 3) nd rfl (Or.inl rfl)) (pgs_cons (pg_tup (by rfl) (pgs_cons (pg_name (i := 4) nd rfl (Or.inl rfl)) (pgs_cons (pg_name (i := 5) nd rfl (Or.inl rfl)) (pgs_nil)))) (pgs_nil)))) (pss_one (ps_expr (QB.pe_bmK K PySem.F.plainAttrs_list PySem.F.slot_list_append PySem.F.type_list_append mt_append (pv 2) (pa_cons (pe_tup (pa_cons (pv 3) (pa_cons (pe_callTy (QB.call_tupleK K) (by rfl) X.n_tuple QB.bo_tuple (pa_cons (pe_lc (own := [("way", 6)]) (g := gName 6) (tt := tYes) rfl nd (QB.pi_listK K (pv 5)) (blkOk_by (N := ["classes", "standings", "marks", "number", "_", "ways", "way"]) (sc := defScope s_parted) (by decide +kernel)) (fun _ _ _ _ _ => pg_name (i := 6) nd rfl (Or.inl rfl)) (fun _ _ _ _ _ => pts_nil) (fun _ _ _ _ _ => (pe_ifExp (pt_cmpR op_isN (pv 6) pe_non (nomark _)) (pe_un un_neg pe_int) (pe_ix (QB.ix_listK K) (pv 0) (pv 6) (fun _ _ => rfl))))) pa_nil)) pa_nil))) pa_nil))))) (pss_one (ps_ret (pe_call (ok_numbered X) (hr.mono (by decide)) rfl X.d_numbered.mg X.d_numbered.F.kp X.d_numbered.b .nil pass0 (pa_cons (pv 2) pa_nil)))))), ?_⟩
    try dsimp only [Cx.nox, Cx.wish, cxOf]
    refine ⟨Nat.zero_le _, fun l hl => ?_⟩
    have s0 : Same H (upd H l (.lst [])) := same_new hl
    obtain ⟨ts, hts, hpr⟩ := hF
    have hlt := Paired.length hpr
    refine ⟨_, rfl, _, rfl, _, _, _, _, rfl, SqL.of (Same.ints s0 hc), SqL.of (s0 _ _ hts), ?_⟩
    refine for_it (walk_zip (K := K) (a := a) (b := b) (n := F.length) (by rw [List.length_map, List.length_map]; omega)) (fun i σ H' => ∃ (v3 v4 v5 : Option V), σ = [some (.ref a), some (.ref b), some (.ref l), v3, v4, v5, none] ∧ Same H H' ∧ MarksAt H' l ((partKeys cs F).take i))
      ⟨none, none, none, rfl, s0, [], upd_same, .nil⟩ (fun i σ H' _ ⟨_, _, _, _, s1, _⟩ => ⟨SqL.of (Same.ints s1 hc), SqL.of (s1 _ _ hts)⟩) ?_ ?_
    · rintro i x σ H1 H2 hi ⟨v3, v4, v5, rfl, s1, ms, hms, hpm⟩ ⟨tp, x1, x2, rfl, ntp, rfl, e1, e2⟩
      have hci : cs[i]? = some (cs[i]'(by omega)) := List.getElem?_eq_getElem _
      have e1 : (cs.map fun (n : Nat) => V.int (n : Int))[i]? = some x1 := e1
      rw [ints_get hci] at e1
      cases e1
      have hFi : F[i]? = some F[i] := List.getElem?_eq_getElem hi
      obtain ⟨t, ht, p1, p2, f1, f2, f3⟩ := paired_get hpr hFi
      have e2 : (ts.map V.ref)[i]? = some x2 := e2
      rw [List.getElem?_map, ht] at e2
      cases e2
      have s2 : Same H (upd H1 tp (.tup [.int ((cs[i]'(by omega) : Nat) : Int), .ref t])) := Same.new s1 ntp
      have s12 : Same H1 (upd H1 tp (.tup [.int ((cs[i]'(by omega) : Nat) : Int), .ref t])) := same_new ntp
      refine ⟨tp, _, rfl, SqT.of upd_same, rfl, _, _, rfl, _, _, rfl, ⟨t, _, rfl, SqT.of (s2 _ _ f1), rfl, _, _, rfl, _, _, rfl, rfl, rfl, ?_⟩⟩
      refine ⟨_, rfl, .inl ⟨rfl, _, SqL.of (s12 _ _ hms)⟩, ?_⟩
      refine ⟨_, rfl, _, rfl, _, rfl, ⟨_, SqL.of (Same.ways s2 f3)⟩, fun D hD => ?_⟩
      refine lc_map (walk_listWs (K := K) (a := p2) (ws := F[i].2)) hD (by have := (hin _ (mem_of hFi)).1; omega) (fun H3 s3 => Same.ways (s2.trans s3) f3) (fun j => .int (wayInt cs (F[i].2[j]?).join)) ?_ ?_
      · rintro j x H3 H4 kk hj s3 ⟨y, hy, rfl, rfl⟩ hk
        have hk' := hk H4 (Same.refl H4)
        rw [hy] at hk'
        refine ⟨rfl, _, rfl, rfl, _, rfl, ?_⟩
        rw [vW_is]
        cases y with
        | none => exact iteT ⟨1, rfl, hk'⟩
        | some n =>
          have hn : n < cs.length := by rw [hlen]; exact (hin _ (mem_of hFi)).2 n (List.mem_of_getElem? hy)
          have hcn : cs[n]? = some cs[n] := List.getElem?_eq_getElem hn
          refine iteF ⟨_, rfl, _, rfl, _, _, _, _, rfl, rfl, SqL.of (Same.ints (s2.trans s3) hc), atI_nat (ints_get hcn), ?_⟩
          have e3 : wayInt cs (some n) = ((cs[n] : Nat) : Int) := by
            show ((cs.getD n 0 : Nat) : Int) = _
            rw [List.getD_eq_getElem?_getD, hcn]
            rfl
          rw [← e3]
          exact hk'
      · intro H3 s3 hD3
        rw [range_map_get _ F[i].2 (fun w => .int (wayInt cs w)) (fun j x hx => by rw [hx]; rfl)] at hD3
        refine ⟨D, _, rfl, .inl ⟨SqL.of hD3, fun q hq => ?_⟩⟩
        refine ⟨by show 2 ≤ sizeLine; decide, fun r hr' => ?_⟩
        have s4 : Same (upd H1 tp (.tup [.int ((cs[i]'(by omega) : Nat) : Int), .ref t])) (upd (upd H3 q (.tup (F[i].2.map fun w => V.int (wayInt cs w)))) r (.tup [.int ((cs[i]'(by omega) : Nat) : Int), .ref q])) := Same.new (Same.new s3 hq) hr'
        have s5 := s12.trans s4
        have hl5 := s5 _ _ hms
        refine ⟨l, _, _, rfl, rfl, hl5, sz_lt ?_, ?_⟩
        · rw [List.length_map, Paired.length hpm, List.length_take]
          omega
        · refine ⟨_, _, _, rfl, Same.mut (s1.trans s5) hl, ms ++ [r], ?_, ?_⟩
          · rw [upd_same, List.map_append]
            rfl
          · have hpk : (partKeys cs F)[i]? = some (partKey cs (cs[i]'(by omega), F[i])) := by
              have ez : (cs.zip F)[i]? = some (cs[i]'(by omega), F[i]) := by
                rw [List.getElem?_zip_eq_some]
                exact ⟨hci, hFi⟩
              unfold partKeys
              rw [List.getElem?_map, ez]
              rfl
            rw [List.take_succ, hpk]
            have tk : ∀ c xs, H1 c = some (.tup xs) → (upd (upd (upd H3 q (.tup (F[i].2.map fun w => V.int (wayInt cs w)))) r (.tup [.int ((cs[i]'(by omega) : Nat) : Int), .ref q])) l (.lst (ms.map V.ref ++ [V.ref r]))) c = some (.tup xs) := fun c xs e =>
              (upd_ne (ne_of e hms (fun z => nomatch z))).trans (s5 _ _ e)
            refine Paired.snoc (L2.Paired.mapP hpm fun b k z => ⟨z.1.to tk, z.2⟩) ⟨?_, ?_⟩
            · have qr : (upd (upd (upd H3 q (.tup (F[i].2.map fun w => V.int (wayInt cs w)))) r (.tup [.int ((cs[i]'(by omega) : Nat) : Int), .ref q])) l (.lst (ms.map V.ref ++ [V.ref r]))) r = some (.tup [.int ((cs[i]'(by omega) : Nat) : Int), .ref q]) :=
                (upd_ne (ne_of upd_same hl5 (fun z => nomatch z))).trans upd_same
              have qq : (upd (upd (upd H3 q (.tup (F[i].2.map fun w => V.int (wayInt cs w)))) r (.tup [.int ((cs[i]'(by omega) : Nat) : Int), .ref q])) l (.lst (ms.map V.ref ++ [V.ref r]))) q = some (.tup (F[i].2.map fun w => V.int (wayInt cs w))) := by
                have z1 : (upd (upd H3 q (.tup (F[i].2.map fun w => V.int (wayInt cs w)))) r (.tup [.int ((cs[i]'(by omega) : Nat) : Int), .ref q])) q = some (.tup (F[i].2.map fun w => V.int (wayInt cs w))) := (upd_ne (ne_of_none upd_same hr')).trans upd_same
                exact (upd_ne (ne_of z1 hl5 (fun z => nomatch z))).trans z1
              refine .tup qr (.cons (.num _) (.cons (.tup qq ?_) .nil))
              have e9 : F[i].2.map (wayNum cs) = F[i].2.map fun w => NestedKey.num (wayInt cs w) := List.map_congr_left fun w _ => wayNum_eq cs w
              rw [e9]
              exact nvs_ints _ _
            · show NestedKey.depth (.tup [.num _, .tup (F[i].2.map (wayNum cs))]) ≤ 8
              have e9 : F[i].2.map (wayNum cs) = F[i].2.map fun w => NestedKey.num (wayInt cs w) := List.map_congr_left fun w _ => wayNum_eq cs w
              rw [e9]
              simp [NestedKey.depth, NestedKey.depthAll, depthAll_num]
    · rintro σ H1 ⟨v3, v4, v5, rfl, s1, hm⟩
      rw [List.take_of_length_le (by rw [partKeys_len hlen]; exact Nat.le_refl _)] at hm
      exact ⟨_, rfl, l, _, rfl, hm, by rw [partKeys_len hlen]; omega, fun p H' s' np hp => k p H' (s1.trans s') (s1.free np) hp⟩

theorem nvs_texts {H : Hp} : ∀ l : List Str, QD.NVs H (l.map NestedKey.text) (l.map V.str)
  | [] => .nil
  | _ :: l => .cons (.text _) (nvs_texts l)
theorem depthAll_text : ∀ l : List Str, NestedKey.depthAll (l.map NestedKey.text) = 0
  | [] => rfl
  | _ :: l => by
    show max (NestedKey.depth (.text _)) (NestedKey.depthAll _) = 0
    rw [depthAll_text l]
    rfl
theorem max_run {H : Hp} {a : Addr} {cs : List Nat} {Q : VK} (h : IntsAt H a cs) (hp : 0 < cs.length) (q : Q (.int (maxOf cs : Int)) H) : rMax K [.ref a] H Q := by
  refine ⟨a, cs.map fun (n : Nat) => (n : Int), rfl, SqL.of (by rw [List.map_map]; exact h), by rw [List.length_map]; exact hp, fun m hm hle => ?_⟩
  obtain ⟨x, hx, rfl⟩ := List.mem_map.mp hm
  have e : maxOf cs = x := maxOf_eq hx fun y hy => by
    have := hle (y : Int) (List.mem_map.mpr ⟨y, hy, rfl⟩)
    omega
  rw [e] at q
  exact q
def spAlike : Sp := fun vs H Q _ => ∃ (b : Addr) (F : Form), vs = [.ref b] ∧ FormAt H b F ∧ 0 < F.length ∧ F.length ≤ 5000 ∧ WaysIn F ∧ (∀ s ∈ F, s.1.length ≤ 10000) ∧ ∀ (p : Addr) (H' : Hp), Same H H' → H p = none → IntsAt H' p (alike F) → Q (.ref p) H'
theorem ok_alike_classes (X : TX K mg) : FnOk P w K mg base CX0 3 X.d_alike_classes.a X.d_alike_classes.fd ["standings"] spAlike := by
  have nd := sc_alike_classes.nd
  refine X.d_alike_classes.F.ok sc_alike_classes (fun vs H Q E h => ?_) (fun cdv A outer s H vs Q E hr h => ?_)
  · obtain ⟨b, F, rfl, _⟩ := h
    rfl
  · obtain ⟨b, F, rfl, hF, hp, hz, hin, hw, k⟩ := h
    refine ⟨_, (pss_cons (ps_set (i := 1) nd rfl (Or.inl rfl) (pe_call (ok_numbered X) (hr.mono (by decide)) rfl X.d_numbered.mg X.d_numbered.F.kp X.d_numbered.b .nil pass0 (pa_cons (pe_lc (own := [("word", 3), ("_", 4)]) (g := gTup K 2 (gCons (gName 3) (gCons (gName 4) (gNil)))) (tt := tYes) rfl nd (QB.pi_listK K (pv 0)) (blkOk_by (N := ["standings", "classes", "many", "word", "_"]) (sc := defScope s_alike_classes) (by decide +kernel)) (fun _ _ _ _ _ => pg_tup (by rfl) (pgs_cons (pg_name (i := 3) nd rfl (Or.inl rfl)) (pgs_cons (pg_name (i := 4) nd rfl (Or.inl rfl)) (pgs_nil)))) (fun _ _ _ _ _ => pts_nil) (fun _ _ _ _ _ => (pe_callTy (QB.call_tupleK K) (by rfl) X.n_tuple QB.bo_tuple (pa_cons (pv 3) pa_nil)))) pa_nil))) (pss_cons (ps_set (i := 2) nd rfl (Or.inl rfl) pe_int) (pss_cons (ps_while PassesOwn.never (pt_cmpR op_le (pv 2) (pe_callB (QB.cr_maxK K rfl) (by rfl) X.n_max QB.bo_max (pa_cons (pv 1) pa_nil)) (nomark _)) (pss_cons (ps_set (i := 2) nd rfl (Or.inl rfl) (pe_op op_add (pe_callB (QB.cr_maxK K rfl) (by rfl) X.n_max QB.bo_max (pa_cons (pv 1) pa_nil)) pe_int)) (pss_one (ps_set (i := 1) nd rfl (Or.inl rfl) (pe_call (ok_parted X) (hr.mono (by decide)) rfl X.d_parted.mg X.d_parted.F.kp X.d_parted.b .nil pass0 (pa_cons (pv 1) (pa_cons (pv 0) pa_nil))))))) (pss_one (ps_ret (pv 1)))))), ?_⟩
    try dsimp only [Cx.nox, Cx.wish, cxOf]
    obtain ⟨vs, hv, hvl⟩ := FormAt.lst hF
    refine ⟨_, rfl, _, rfl, ⟨_, SqL.of hv⟩, fun D hD => ?_⟩
    refine lc_it (walk_listF (K := K) (p := b) (F := F)) (fun i H' => Same H H' ∧ MarksAt H' D (wordKeys (F.take i)))
      ⟨same_new hD, [], upd_same, .nil⟩ (fun i H' _ h => Same.form h.1 hF) ?_ ?_
    · rintro i x H1 H2 hi ⟨s1, ms, hms, hpm⟩ ⟨s, t, a, b', hs, rfl, rfl, h1, h2, h3⟩
      refine ⟨t, _, rfl, SqT.of h1, rfl, _, _, rfl, _, _, rfl, rfl, rfl, ?_⟩
      refine ⟨_, rfl, _, _, rfl, .inl ⟨SqL.of h2, fun q hq => ?_⟩⟩
      have e1 : Same H2 (upd H2 q (.tup (vS s.1))) := same_new hq
      have hml := Paired.length hpm
      unfold wordKeys at hml
      rw [List.length_map, List.length_take] at hml
      refine ⟨_, e1 _ _ hms, sz_lt (by rw [List.length_map]; omega), Same.mut (s1.trans e1) hD, ms ++ [q], ?_, ?_⟩
      · rw [upd_same, List.map_append]
        rfl
      · have tk : ∀ c xs, H2 c = some (.tup xs) → (upd (upd H2 q (.tup (vS s.1))) D (.lst (ms.map V.ref ++ [V.ref q]))) c = some (.tup xs) := fun c xs e =>
          (upd_ne (ne_of e hms (fun z => nomatch z))).trans (e1 _ _ e)
        have hs' : F.take (i + 1) = F.take i ++ [s] := by rw [List.take_succ, hs]; rfl
        unfold wordKeys at hpm ⊢
        rw [hs', List.map_append]
        refine Paired.snoc (L2.Paired.mapP hpm fun b k z => ⟨z.1.to tk, z.2⟩) ⟨.tup (vs := vS s.1) ((upd_ne (ne_of upd_same (e1 _ _ hms) (fun z => nomatch z))).trans upd_same) (nvs_texts _), ?_⟩
        show NestedKey.depth (.tup (s.1.map .text)) ≤ 8
        simp [NestedKey.depth, depthAll_text]
    · rintro H1 ⟨s1, hm⟩
      rw [List.take_length] at hm
      refine ⟨D, _, rfl, hm, by unfold wordKeys; rw [List.length_map]; omega, fun l H2 s2 nl hl => ?_⟩
      refine ⟨fun m σ H' => ∃ (c : Addr) (many : Nat) (cs : List Nat) (v3 v4 : Option V), σ = [some (.ref b), some (.ref c), some (.int (many : Int)), v3, v4] ∧ Same H H' ∧ H c = none ∧ IntsAt H' c cs ∧ cs.length = F.length ∧ (∀ x ∈ cs, x < F.length) ∧ m = F.length + 1 - many ∧
        many ≤ F.length ∧ ∃ f, F.length + 1 ≤ f + many ∧ alikeLoop F f many cs = alike F, ⟨_, l, 0, _, none, none, rfl, s1.trans s2, s1.free nl, hl, by rw [QD.numb_len]; exact List.length_map _, fun x hx => ?_, rfl, Nat.zero_le _, _, Nat.le_refl _, rfl⟩, ?_⟩
      · have := numb_lt' hx
        unfold wordKeys at this
        rwa [List.length_map] at this
      · rintro m σ H3 ⟨c, many, cs, v3, v4, rfl, s3, nc, hc, hcl, hclt, rfl, hmany, f, hf, hloop⟩
        have hpos : 0 < cs.length := by omega
        have hmx : maxOf cs < F.length := by
          have := (maxOf_le cs 0 (F.length - 1)).mpr ⟨Nat.zero_le _, fun x hx => by have := hclt x hx; omega⟩
          unfold maxOf
          omega
        refine ⟨_, rfl, _, rfl, ?_⟩
        dsimp only [tNil]
        refine max_run hc hpos ?_
        refine ⟨_, _, rfl, rfl, _, rfl, ?_⟩
        cases f with
        | zero => omega
        | succ f =>
          unfold alikeLoop at hloop
          by_cases hle : many ≤ maxOf cs
          · rw [if_pos (decide_eq_true (by omega))]
            rw [if_pos hle] at hloop
            refine ⟨_, fun σ' H' h => h, ?_⟩
            refine ⟨_, rfl, ?_⟩
            dsimp only [tNil]
            refine max_run hc hpos ?_
            refine ⟨_, _, rfl, rfl, ?_⟩
            refine ⟨_, rfl, _, rfl, ?_⟩
            refine ⟨c, b, cs, F, rfl, hc, Same.form s3 hF, hcl, hz, hin, fun p H4 s4 np hp4 => ?_⟩
            refine ⟨_, ?_, p, maxOf cs + 1, _, v3, v4, rfl, s3.trans s4, s3.free np, hp4, part_len hcl, fun x hx => ?_, rfl, by omega, f, by omega, hloop⟩
            · omega
            · have := numb_lt' hx
              rwa [partKeys_len hcl] at this
          · rw [if_neg (by simp; omega)]
            rw [if_neg hle] at hloop
            rw [← hloop] at k
            exact ⟨_, rfl, k c H3 s3 nc hc⟩
end
end Law
end

section
set_option Elab.async false
set_option linter.all false
set_option maxRecDepth 100000
set_option maxHeartbeats 4000000
namespace Law
open PySem PySem.Spec PyProof.Rows L2 LamX QB QM
section
variable {P : Program} {w : World} {K : PySem.W.Frag} {mg : Str → Option Value} {base : Heap}
def keysOf (cs met : List Nat) : List L2.Key := met.map fun m => (Sum.inl ((clsOf cs m : Nat) : Int) : L2.Key)
theorem mem_keysOf {cs met : List Nat} {n : Nat} : (Sum.inl ((clsOf cs n : Nat) : Int) : L2.Key) ∈ keysOf cs met ↔ clsOf cs n ∈ met.map (clsOf cs) := by
  unfold keysOf
  rw [List.mem_map, List.mem_map]
  constructor
  · rintro ⟨m, hm, e⟩
    exact ⟨m, hm, by have := Sum.inl.inj e; omega⟩
  · rintro ⟨m, hm, e⟩
    exact ⟨m, hm, by rw [e]⟩
theorem idx_keysOf {cs : List Nat} {n : Nat} (met : List Nat) : (@List.idxOf L2.Key instBEqOfDecidableEq (Sum.inl ((clsOf cs n : Nat) : Int)) (keysOf cs met)) = (met.map (clsOf cs)).idxOf (clsOf cs n) := by
  have e := QD.idxOf_map_inj (κ := L2.Key) (fun c : Nat => Sum.inl (c : Int)) (fun a b h => by have := Sum.inl.inj h; omega) (clsOf cs n) (met.map (clsOf cs))
  rw [List.map_map] at e
  exact e
theorem clsOf_get {cs : List Nat} {n : Nat} (h : n < cs.length) : cs[n]? = some (clsOf cs n) := by
  unfold clsOf
  rw [List.getD_eq_getElem?_getD, List.getElem?_eq_getElem h]
  rfl
/-- one more way looked at -/
theorem keysOf_snoc (cs met : List Nat) (n : Nat) : keysOf cs (met ++ [n]) = keysOf cs met ++ [Sum.inl ((clsOf cs n : Nat) : Int)] := by
  unfold keysOf
  rw [List.map_append]
  rfl
theorem keysOf_len (cs met : List Nat) : (keysOf cs met).length = met.length := List.length_map _
/-- the word of the m-th standing of a form of one's own -/
def wAd (Lb : List Tri) (m : Nat) : Addr := ((Lb[m]?).map fun x => x.2.1).getD 0
theorem wAd_of {Lb : List Tri} {m : Nat} {x : Tri} (h : Lb[m]? = some x) : wAd Lb m = x.2.1 := by
  unfold wAd
  rw [h]
  rfl
theorem inner_cons (x : Tri) (L : List Tri) : inner (x :: L) = x.2.1 :: x.2.2 :: inner L := rfl
theorem wAd_mem {Lb : List Tri} {m : Nat} (h : m < Lb.length) : wAd Lb m ∈ inner Lb := by
  have e := List.getElem?_eq_getElem h
  rw [wAd_of e]
  exact List.mem_flatMap.mpr ⟨_, List.getElem_mem h, by simp⟩
theorem wAd_inj : ∀ {Lb : List Tri} {i j : Nat}, (inner Lb).Nodup → i < Lb.length → j < Lb.length → wAd Lb i = wAd Lb j → i = j
  | [], i, j, _, h, _, _ => absurd h (Nat.not_lt_zero _)
  | x :: Lb, 0, 0, _, _, _, _ => rfl
  | x :: Lb, 0, j + 1, nd, _, hj, e => by
    rw [inner_cons, List.nodup_cons] at nd
    have hm := wAd_mem (Lb := Lb) (m := j) (by simpa using hj)
    have e' : x.2.1 = wAd Lb j := e
    exact absurd (by rw [e']; exact List.mem_cons_of_mem _ hm) nd.1
  | x :: Lb, i + 1, 0, nd, hi, _, e => by
    rw [inner_cons, List.nodup_cons] at nd
    have hm := wAd_mem (Lb := Lb) (m := i) (by simpa using hi)
    have e' : wAd Lb i = x.2.1 := e
    exact absurd (by rw [← e']; exact List.mem_cons_of_mem _ hm) nd.1
  | x :: Lb, i + 1, j + 1, nd, hi, hj, e => by
    rw [inner_cons, List.nodup_cons, List.nodup_cons] at nd
    have e' : wAd Lb i = wAd Lb j := e
    rw [wAd_inj nd.2.2 (by simpa using hi) (by simpa using hj) e']
/-- one more standing, with a word that stood already -/
theorem newL_snoc {H0 H H' : Hp} {L : List Tri} {F : Form} {t a b : Addr} {s : Std} (n : NewL H0 H L F) (e : Same H H') (ha : a ∉ inner L) (hb : H b = none) (hab : a ≠ b) (h1 : H' t = some (.tup [.ref a, .ref b])) (h2 : WordAt H' a s.1) (h3 : WaysAt H' b s.2) (f1 : Fresh H0 t) (f2 : Fresh H0 a) (f3 : Fresh H0 b) :
    NewL H0 H' (L ++ [(t, a, b)]) (F ++ [s]) := by
  have hap : ∀ x ∈ inner L, ∀ y ∈ inner [(t, a, b)], x ≠ y := by
    intro x hx y hy z
    subst z
    rcases List.mem_cons.mp hy with hy | hy
    · rw [hy] at hx
      exact ha hx
    · rw [List.mem_singleton.mp hy] at hx
      obtain ⟨xs, hxs⟩ := n.there hx
      rw [hb] at hxs
      cases hxs
  have hone : (inner [(t, a, b)]).Nodup := by
    show [a, b].Nodup
    simp [hab]
  have hnd : (inner L ++ inner [(t, a, b)]).Nodup := List.nodup_append.mpr ⟨n.nd, hone, hap⟩
  refine ⟨Paired.snoc (n.same e).at_ ⟨h1, h2, h3⟩, fun x hx => ?_, by rw [inner_append]; exact hnd⟩
  rcases List.mem_append.mp hx with hx | hx
  · exact n.new x hx
  · rw [List.mem_singleton.mp hx]
    exact ⟨f1, f2, f3⟩
/-- where the words of what is told stand -/
structure Told (H : Hp) (Lb : List Tri) (met : List Nat) (L : List Tri) : Prop where
  words : L.map (fun x => x.2.1) = (met.take L.length).map (wAd Lb)
  ways : ∀ x ∈ L, H x.2.2 = none
theorem Told.out {H : Hp} {Lb : List Tri} {met : List Nat} {L : List Tri} {F : Form} {cs : List Nat} (T : Told H Lb met L) (nd : (inner Lb).Nodup) (hl : Lb.length = F.length) (M : Met F cs met) {k m : Nat} (hk : L.length = k) (hm : met[k]? = some m) {u : HO} (hu : H (wAd Lb m) = some u) : wAd Lb m ∉ inner L := fun h => by
  obtain ⟨x, hx, hq⟩ := mem_inner h
  rcases hq with hq | hq
  · have h1 : x.2.1 ∈ L.map (fun x => x.2.1) := List.mem_map.mpr ⟨x, hx, rfl⟩
    rw [T.words] at h1
    obtain ⟨m', h2, h3⟩ := List.mem_map.mp h1
    obtain ⟨j, hj, e⟩ := List.mem_iff_getElem.mp h2
    rw [List.length_take] at hj
    rw [List.getElem_take] at e
    have hjm : j < met.length := by omega
    have e2 : met[j]? = some m' := by rw [List.getElem?_eq_getElem hjm, e]
    have l1 := M.lt m (List.mem_of_getElem? hm)
    have l2 := M.lt m' (List.mem_of_getElem? e2)
    have e3 := wAd_inj nd (by omega) (by omega) (h3.trans hq.symm)
    subst e3
    have nm : met.Nodup := (List.pairwise_map.mp M.nd).imp fun h e => h (congrArg _ e)
    have := nd_ix nm e2 hm
    omega
  · rw [hq, T.ways x hx] at hu
    cases hu
theorem Told.snoc {H : Hp} {Lb : List Tri} {met m6 tl : List Nat} {L : List Tri} {k m : Nat} {t b : Addr} (T : Told H Lb met L) (hk : L.length = k) (hm : met[k]? = some m) (h6 : m6 = met ++ tl) (hb : H b = none) : Told H Lb m6 (L ++ [(t, wAd Lb m, b)]) := by
  subst hk
  have hlt : L.length < met.length := (List.getElem?_eq_some_iff.mp hm).1
  refine ⟨?_, fun x hx => ?_⟩
  · rw [List.map_append, T.words, h6, List.length_append, List.length_singleton, List.take_append_of_le_length (by omega), List.take_succ, hm, List.map_append]
    rfl
  · rcases List.mem_append.mp hx with hx | hx
    · exact T.ways x hx
    · rw [List.mem_singleton.mp hx]
      exact hb
def spInOrder : Sp := fun vs H Q _ => ∃ (b a : Addr) (F : Form) (cs : List Nat) (H0 : Hp) (Lb : List Tri), vs = [.ref b, .ref a] ∧ NewF H0 H b Lb F ∧ (∀ q, H q = none → Fresh H0 q) ∧ IntsAt H a cs ∧ cs.length = F.length ∧ 0 < F.length ∧ F.length ≤ 5000 ∧ WaysIn F ∧
  ∀ (p : Addr) (L : List Tri) (H' : Hp), Same H H' → NewF H0 H' p L (inOrder F cs) → Q (.ref p) H'
theorem ok_in_order_met (X : TX K mg) : FnOk P w K mg base CX0 1 X.d_in_order_met.a X.d_in_order_met.fd ["standings", "classes"] spInOrder := by
  have nd := sc_in_order_met.nd
  refine X.d_in_order_met.F.ok sc_in_order_met (fun vs H Q E h => ?_) (fun cdv A outer s H vs Q E hr h => ?_)
  · obtain ⟨b, a, F, cs, H0, Lb, rfl, _⟩ := h
    rfl
  · obtain ⟨b, a, F, cs, H0, Lb, rfl, nF, fr0, hc, hlen, hp, hz, hin, k⟩ := h
    refine ⟨_, (pss_cons (ps_set (i := 2) nd rfl (Or.inr rfl) (pe_disp (pps_cons (pe_ix (QB.ix_listK K) (pv 1) pe_int (fun _ _ => rfl)) pe_int pps_nil) (by rfl) (by rfl) (fun z => by cases z) (by decide))) (pss_cons (ps_set (i := 3) nd rfl (Or.inl rfl) (pe_lst (pa_cons pe_int pa_nil))) (pss_cons (ps_set (i := 4) nd rfl (Or.inl rfl) (pe_lst pa_nil)) (pss_cons (ps_while PassesOwn.never (pt_cmpR op_lt (pe_callB (QB.call_lenK K) (by rfl) X.n_len PySem.boot_len (pa_cons (pv 4) pa_nil)) (pe_callB (QB.call_lenK K) (by rfl) X.n_len PySem.boot_len (pa_cons (pv 3) pa_nil)) (nomark _)) (pss_cons (ps_asg (pe_ix (QB.ix_listK K) (pv 0) (pe_ix (QB.ix_listK K) (pv 3) (pe_callB (QB.call_lenK K) (by rfl) X.n_len PySem.boot_len (pa_cons (pv 4) pa_nil)) (fun _ _ => rfl)) (fun _ _ => rfl)) (pg_tup (by rfl) (pgs_cons (pg_name (i := 5) nd rfl (Or.inl rfl)) (pgs_cons (pg_name (i := 6) nd rfl (Or.inl rfl)) (pgs_nil))))) (pss_cons (ps_for PassesOwn.never rfl (QB.pi_listK K (pv 6)) (pg_name (i := 7) nd rfl (Or.inl rfl)) (pss_one (ps_if (PW.pt (pw_and (pt_cmpR op_notN (pv 7) pe_non (nomark _)) (pw_and1 (pt_cmp (pc_dnotin (hu_of hr) (pe_ix (QB.ix_listK K) (pv 1) (pv 7) (fun _ _ => rfl)) (pv 2)))))) (pss_cons (ps_dput (hu_of hr) (pv 2) (pe_ix (QB.ix_listK K) (pv 1) (pv 7) (fun _ _ => rfl)) (pe_callB (QB.call_lenK K) (by rfl) X.n_len PySem.boot_len (pa_cons (pv 3) pa_nil)) rfl) (pss_one (ps_expr (QB.pe_bmK K PySem.F.plainAttrs_list PySem.F.slot_list_append PySem.F.type_list_append mt_append (pv 3) (pa_cons (pv 7) pa_nil))))) pss_nil))) (pss_one (ps_expr (QB.pe_bmK K PySem.F.plainAttrs_list PySem.F.slot_list_append PySem.F.type_list_append mt_append (pv 4) (pa_cons (pe_tup (pa_cons (pv 5) (pa_cons (pe_lc (own := [("way", 7)]) (g := gName 7) (tt := tYes) rfl nd (QB.pi_listK K (pv 6)) (blkOk_by (N := ["standings", "classes", "numbers", "met", "told", "beside", "ways", "way"]) (sc := defScope s_in_order_met) (by decide +kernel)) (fun _ _ _ _ _ => pg_name (i := 7) nd rfl (Or.inl rfl)) (fun _ _ _ _ _ => pts_nil) (fun _ _ _ _ _ => (pe_ifExp (pt_cmpR op_isN (pv 7) pe_non (nomark _)) pe_non (pe_dget (hu_of hr) (pv 2) (pe_ix (QB.ix_listK K) (pv 1) (pv 7) (fun _ _ => rfl)) (fun _ _ => rfl))))) pa_nil))) pa_nil))))))) (pss_one (ps_ret (pv 4))))))), ?_⟩
    try dsimp only [Cx.nox, Cx.wish, cxOf]
    have hF := nF.form
    have hLb := nF.all.len
    refine fun d hd => ?_
    have s1 : Same H (upd H d (.dK [])) := same_new hd
    refine ⟨_, rfl, _, _, _, _, rfl, rfl, SqL.of (Same.ints s1 hc), atI_nat (j := 0) (ints_get (clsOf_get (by omega))), upd_same, [(Sum.inl ((clsOf cs 0 : Nat) : Int), .int 0)], rfl, by show 1 ≤ 15; decide, ?_⟩
    rw [upd_upd]
    have s2 : Same H (upd H d (.dK (L2.mergeK [] [(Sum.inl ((clsOf cs 0 : Nat) : Int), .int 0)]))) := same_new hd
    refine ⟨by show 1 ≤ sizeLine; decide, fun l hl => ?_⟩
    have s3 := Same.new s2 (o := .lst [V.int 0]) hl
    refine ⟨Nat.zero_le _, fun t ht => ?_⟩
    have s4 := Same.new s3 (o := .lst []) ht
    have ndl : d ≠ l := ne_of_none upd_same hl
    have nlt : l ≠ t := ne_of_none upd_same ht
    have ndt : d ≠ t := ne_of_none ((upd_ne ndl).trans upd_same) ht
    refine ⟨fun m σ H' => ∃ (met : List Nat) (told : Form) (L : List Tri) (v5 v6 v7 : Option V), σ = [some (.ref b), some (.ref a), some (.ref d), some (.ref l), some (.ref t), v5, v6, v7] ∧ Same H H' ∧ H' d = some (.dK (QD.dictFrom 0 (keysOf cs met))) ∧ IntsAt H' l met ∧
      H' t = some (.lst (L.map fun x => V.ref x.1)) ∧ NewL H0 H' L told ∧ Told H Lb met L ∧ t ∉ inner L ∧ l ∉ inner L ∧ Met F cs met ∧ told.length ≤ met.length ∧ m = F.length - told.length ∧ ∃ f, F.length + 1 ≤ f + told.length ∧ orderLoop F cs f met told = inOrder F cs,
      ⟨_, [0], [], [], none, none, none, rfl, s4, ?_, ?_, upd_same, NewL.nil, ⟨rfl, fun _ h => nomatch h⟩, by simp [inner], by simp [inner], ⟨by simp, fun m hm => ?_⟩, by simp, rfl, _, Nat.le_refl _, rfl⟩, ?_⟩
    · rw [upd_ne ndt, upd_ne ndl, upd_same]
      rfl
    · exact (upd_ne nlt).trans upd_same
    · rw [List.mem_singleton.mp hm]
      exact hp
    · have d0 := hd
      have l0 : H l = none := s2.free hl
      have t0 : H t = none := s3.free ht
      rintro m σ H1 ⟨met, told, L, v5, v6, v7, rfl, s5, hD, hM, hT, nL, tl_, oT, oL, met_, htm, rfl, f, hf, hloop⟩
      have hLl := nL.len
      have hml := met_.len
      refine ⟨_, rfl, _, _, rfl, .inl (SqL.of hT), _, rfl, _, _, rfl, .inl (SqL.of hM), _, _, rfl, rfl, _, rfl, ?_⟩
      rw [List.length_map, List.length_map, hLl]
      cases f with
      | zero => omega
      | succ f =>
        unfold orderLoop at hloop
        by_cases hlt : told.length < met.length
        · rw [if_pos (decide_eq_true (by omega))]
          rw [if_pos hlt] at hloop
          refine ⟨_, fun σ' H' h => h, ?_⟩
          have hmt : met[told.length]? = some (met.getD told.length 0) := by
            rw [List.getD_eq_getElem?_getD, List.getElem?_eq_getElem hlt]
            rfl
          have hmF : met.getD told.length 0 < F.length := met_.lt _ (List.mem_of_getElem? hmt)
          generalize met.getD told.length 0 = mm at hloop hmt hmF
          have hFm := stdOf_get hmF
          generalize stdOf F mm = sd at hloop hFm
          have hsin := hin sd (mem_of hFm)
          obtain ⟨xb, hxb, f4, f5, f6⟩ := nF.all.get hFm
          have f1 := nF.lst
          have f3 : (Lb.map fun x => V.ref x.1)[mm]? = some (.ref xb.1) := by rw [List.getElem?_map, hxb]; rfl
          have ew := wAd_of hxb
          have fw : Fresh H0 xb.2.1 := (nF.all.new xb (List.mem_of_getElem? hxb)).2.1
          have ow := Told.out tl_ nF.all.nd hLb met_ hLl hmt (u := .lst (vS sd.1)) (by rw [ew]; exact f5)
          rw [ew] at ow
          obtain ⟨tt, p1, p2⟩ := xb
          have f3 : (Lb.map fun x => V.ref x.1)[mm]? = some (.ref tt) := f3
          have f4 : H tt = some (.tup [.ref p1, .ref p2]) := f4
          have f5 : WordAt H p1 sd.1 := f5
          have f6 : WaysAt H p2 sd.2 := f6
          have ow : p1 ∉ inner L := ow
          have fw : Fresh H0 p1 := fw
          have ew : wAd Lb mm = p1 := ew
          -- word, ways = standings[met[len(told)]]
          refine ⟨_, rfl, _, rfl, _, rfl, _, _, rfl, .inl (SqL.of hT), ?_⟩
          rw [List.length_map, hLl]
          refine ⟨_, _, _, _, rfl, rfl, SqL.of hM, atI_nat (ints_get hmt), _, _, _, _, rfl, rfl, SqL.of (s5 _ _ f1), atI_nat f3, ?_⟩
          refine ⟨tt, _, rfl, SqT.of (s5 _ _ f4), rfl, _, _, rfl, _, _, rfl, rfl, ?_⟩
          -- for way in ways
          refine ⟨_, rfl, _, rfl, ⟨_, SqL.of (Same.ways s5 f6)⟩, ?_⟩
          refine for_it (walk_listWs (K := K) (a := p2) (ws := sd.2)) (fun i σ H' => ∃ (v7 : Option V), σ = [some (.ref b), some (.ref a), some (.ref d), some (.ref l), some (.ref t), some (.ref p1), some (.ref p2), v7] ∧ Same H H' ∧ H' d = some (.dK (QD.dictFrom 0 (keysOf cs (visitAll cs met (sd.2.take i))))) ∧
            IntsAt H' l (visitAll cs met (sd.2.take i)) ∧ H' t = some (.lst (L.map fun x => V.ref x.1)) ∧ NewL H0 H' L told) ⟨_, rfl, s5, hD, hM, hT, nL⟩ (fun i σ H' _ ⟨_, _, s6, _⟩ => Same.ways s6 f6) ?_ ?_
          · rintro i x σ H2 H3 hi ⟨v7, rfl, s6, hD6, hM6, hT6, nL6⟩ ⟨y, hy, rfl, rfl⟩
            have htk : sd.2.take (i + 1) = sd.2.take i ++ [y] := by rw [List.take_succ, hy]; rfl
            have hyF : ∀ n, y = some n → n < F.length := fun n e => hsin.2 n (by rw [← e]; exact List.mem_of_getElem? hy)
            have metI : Met F cs (visitAll cs met (sd.2.take i)) := met_.visitAll fun n hn => hsin.2 n (List.mem_of_mem_take hn)
            have hvs : visitAll cs met (sd.2.take (i + 1)) = visit cs (visitAll cs met (sd.2.take i)) y := by
              rw [htk]
              unfold visitAll
              rw [List.foldl_append]
              rfl
            generalize visitAll cs met (sd.2.take i) = mi at hD6 hM6 metI hvs
            have hmi := metI.len
            refine ⟨_, rfl, rfl, _, rfl, ?_⟩
            rw [vW_is]
            cases y with
            | none =>
              refine iteF ?_
              refine ⟨_, rfl, s6, ?_, ?_, hT6, nL6⟩
              · rw [hvs]
                exact hD6
              · rw [hvs]
                exact hM6
            | some n =>
              have hn := hyF n rfl
              have hcn := ints_get (clsOf_get (cs := cs) (n := n) (by omega))
              refine iteT ?_
              refine ⟨_, rfl, _, rfl, _, _, _, _, rfl, rfl, SqL.of (Same.ints s6 hc), atI_nat hcn, _, rfl, d, _, rfl, DGet.k (k := Sum.inl ((clsOf cs n : Nat) : Int)) hD6, _, rfl, ?_⟩
              rw [QD.valV_dictFrom]
              by_cases hmem : clsOf cs n ∈ mi.map (clsOf cs)
              · rw [if_pos (mem_keysOf.mpr hmem)]
                refine ⟨_, rfl, s6, ?_, ?_, hT6, nL6⟩
                · rw [hvs]
                  simp only [visit, if_pos hmem]
                  exact hD6
                · rw [hvs]
                  simp only [visit, if_pos hmem]
                  exact hM6
              · rw [if_neg (fun z => hmem (mem_keysOf.mp z))]
                have hnd := metI.visit (w := some n) hyF
                have hvn : visit cs mi (some n) = mi ++ [n] := by simp only [visit, if_neg hmem]
                refine ⟨_, rfl, _, _, rfl, .inl (SqL.of hM6), ?_⟩
                refine ⟨_, rfl, _, rfl, _, rfl, _, _, _, _, rfl, rfl, SqL.of (Same.ints s6 hc), atI_nat hcn, d, _, rfl, DPut.k (k := Sum.inl ((clsOf cs n : Nat) : Int)) hD6 (sz_lt (by rw [QD.dictFrom_len, keysOf_len]; omega)), ?_⟩
                have s7 := Same.mut (p := d) (o := .dK (putK (QD.dictFrom 0 (keysOf cs mi)) (Sum.inl ((clsOf cs n : Nat) : Int)) (.int ((mi.map fun (n : Nat) => V.int (n : Int)).length : Nat)))) s6 d0
                have hM7 := (upd_ne (a := d) (o := .dK (putK (QD.dictFrom 0 (keysOf cs mi)) (Sum.inl ((clsOf cs n : Nat) : Int)) (.int ((mi.map fun (n : Nat) => V.int (n : Int)).length : Nat)))) (ne_of hM6 hD6 (fun z => nomatch z))).trans hM6
                refine ⟨_, rfl, .inl ⟨rfl, _, SqL.of hM7⟩, _, rfl, l, _, _, rfl, rfl, hM7, sz_lt (by rw [List.length_map]; omega), ?_⟩
                refine ⟨_, rfl, Same.mut s7 l0, ?_, ?_, ?_, ?_⟩
                · rw [upd_ne (ne_of hD6 hM6 (fun z => nomatch z)), upd_same, hvs, hvn, keysOf_snoc, List.length_map]
                  have e := QD.putK_dictFrom (n := 0) (l := keysOf cs mi) (k := (Sum.inl ((clsOf cs n : Nat) : Int) : L2.Key)) (fun z => hmem (mem_keysOf.mp z))
                  rw [Nat.zero_add, keysOf_len] at e
                  rw [e]
                · rw [hvs, hvn]
                  unfold IntsAt
                  rw [upd_same, List.map_append]
                  rfl
                · exact (upd_ne nlt.symm).trans ((upd_ne ndt.symm).trans hT6)
                · exact NewL.upd (nL6.updD hD6) hM7 oL
          · rintro σ H2 ⟨v7, rfl, s6, hD6, hM6, hT6, nL6⟩
            rw [List.take_length] at hD6 hM6
            have met6 : Met F cs (visitAll cs met sd.2) := met_.visitAll fun n hn => hsin.2 n hn
            have hhas := fun n hn => visitAll_has cs sd.2 met n hn
            have hpre := visitAll_pre cs sd.2 met
            generalize visitAll cs met sd.2 = m6 at hD6 hM6 met6 hhas hpre hloop
            have hm6 := met6.len
            have hwf := f5
            -- told.append((list(word), [..]))
            refine ⟨_, rfl, .inl ⟨rfl, _, SqL.of hT6⟩, ?_⟩
            refine ⟨_, rfl, _, rfl, _, rfl, ⟨_, SqL.of (Same.ways s6 f6)⟩, fun q2 hq2 => ?_⟩
            refine lc_map (walk_listWs (K := K) (a := p2) (ws := sd.2)) hq2 (by have := hsin.1; omega) (fun H3 s8 => Same.ways (s6.trans s8) f6) (fun j => vW (newWay cs m6 (sd.2[j]?).join)) ?_ ?_
            · rintro j x H3 H4 kk hj s8 ⟨y, hy, rfl, rfl⟩ hk
              have hk' := hk H4 (Same.refl H4)
              rw [hy] at hk'
              refine ⟨rfl, _, rfl, rfl, _, rfl, ?_⟩
              rw [vW_is]
              cases y with
              | none => exact iteT hk'
              | some n =>
                have hns := List.mem_of_getElem? hy
                have hn := hsin.2 n hns
                refine iteF ⟨_, rfl, _, rfl, _, rfl, _, _, _, _, rfl, rfl, SqL.of (Same.ints (s6.trans s8) hc), atI_nat (ints_get (clsOf_get (by omega))), d, _, rfl, (by
                  have e := DGet.k (k := (Sum.inl ((clsOf cs n : Nat) : Int) : L2.Key)) (s8 _ _ hD6)
                  rw [QD.valV_dictFrom, if_pos (mem_keysOf.mpr (hhas n hns)), idx_keysOf, Nat.zero_add] at e
                  exact e), hk'⟩
            · intro H3 s8 hq3
              rw [range_map_get _ sd.2 (fun w => vW (newWay cs m6 w)) (fun j x hx => by rw [hx]; rfl)] at hq3
              refine ⟨by show 2 ≤ sizeLine; decide, fun q3 hq3' => ?_⟩
              have s9 := Same.new s8 (o := .tup [V.ref p1, V.ref q2]) hq3'
              have s10 := s6.trans s9
              have n2 : H2 q2 = none := hq2
              have n3 : H2 q3 = none := s8.free hq3'
              have n2' : H q2 = none := s6.free n2
              have e1 : WordAt (upd H3 q3 (.tup [V.ref p1, V.ref q2])) p1 sd.1 := Same.word s10 f5
              have e2 : (upd H3 q3 (.tup [V.ref p1, V.ref q2])) q2 = some (.lst (vWs (newStd cs m6 sd).2)) := by
                rw [upd_ne (ne_of_none hq3 hq3'), hq3]
                unfold vWs newStd
                rw [List.map_map]
                rfl
              have nq12 : p1 ≠ q2 := ne_of_none f5 n2'
              have nn := newL_snoc nL6 s9 ow n2 nq12 (t := q3) (s := newStd cs m6 sd) upd_same e1 e2 (fr0 _ (s6.free n3)) fw (fr0 _ n2')
              have oT' := not_inner_snoc (t := q3) oT (ne_of_none f5 t0).symm (ne_of_none hT6 n2)
              have oL' := not_inner_snoc (t := q3) oL (ne_of_none f5 l0).symm (ne_of_none hM6 n2)
              have hT9 := s9 _ _ hT6
              refine ⟨t, _, _, rfl, rfl, hT9, sz_lt (by rw [List.length_map]; omega), ?_⟩
              obtain ⟨tl, hpre⟩ := hpre
              have hlen6 : met.length ≤ m6.length := by rw [hpre, List.length_append]; omega
              refine ⟨_, ?_, m6, told ++ [newStd cs m6 sd], L ++ [(q3, p1, q2)], _, _, _, rfl, Same.mut s10 t0, ?_, ?_, ?_, nn.upd hT9 oT', by rw [← ew]; exact tl_.snoc hLl hmt hpre n2', oT', oL', met6, ?_, rfl, f, ?_, hloop⟩
              · rw [List.length_append, List.length_singleton]
                omega
              · exact (upd_ne ndt).trans (s9 _ _ hD6)
              · exact (upd_ne nlt).trans (s9 _ _ hM6)
              · rw [upd_same, List.map_append]
                rfl
              · rw [List.length_append, List.length_singleton]
                omega
              · rw [List.length_append, List.length_singleton]
                omega
        · rw [if_neg (by simp; omega)]
          rw [if_neg hlt] at hloop
          rw [← hloop] at k
          exact ⟨_, rfl, k t L H1 s5 ⟨hT, nL, fr0 _ t0, oT⟩⟩
end
end Law
end

section
set_option Elab.async false
set_option linter.all false
set_option maxRecDepth 100000
set_option maxHeartbeats 8000000
namespace Law
open PySem PySem.Spec PyProof.Rows L2 LamX QB QM
abbrev Tof {K : PySem.W.Frag} {mg : Str → Option Value} (X : TX K mg) : List (Addr × Str) := [(X.lam_P, ("without_needless_ways" : Str) ++ ".<locals>." ++ "<lambda>")]
section
variable {P : Program} {w : World} {K : PySem.W.Frag} {mg : Str → Option Value} {base : Heap}
theorem rep_flat (n : Nat) (x : V) : (List.replicate n [x]).flatten = List.replicate n x := by
  induction n with
  | zero => rfl
  | succ n ih => rw [List.replicate_succ, List.flatten_cons, ih, List.replicate_succ]; rfl
theorem ixN_of {n j : Nat} (h : j < n) : ixN n (j : Int) = some j := by
  unfold ixN
  rw [if_pos (by omega), if_pos (by omega), Int.toNat_natCast]
theorem set_same {α : Type} {l : List α} {k : Nat} {x : α} (h : l[k]? = some x) : l.set k x = l := by
  refine List.ext_getElem? fun i => ?_
  by_cases e : k = i
  · subst e
    rw [List.getElem?_set_self (List.getElem?_eq_some_iff.mp h).1, h]
  · rw [List.getElem?_set_ne e]
theorem vWs_set (ws : Ways) (k : Nat) (w : Option Nat) : (vWs ws).set k (vW w) = vWs (ws.set k w) := (List.map_set ..).symm
theorem tri_get {L : List Tri} {k : Nat} {x : Tri} (h : L[k]? = some x) : (L.map fun x => V.ref x.1)[k]? = some (.ref x.1) := by
  rw [List.getElem?_map, h]
  rfl
/-- tags that are texts, words of tags -/
structure WordsOk (tags : List Str) (F : Form) : Prop where
  txt : ∀ t ∈ tags, PyData.strOk t = true
  sub : ∀ s ∈ F, ∀ t ∈ s.1, t ∈ tags
  len : ∀ s ∈ F, s.1.length ≤ 5000
theorem WordsOk.ok {tags : List Str} {F : Form} (o : WordsOk tags F) {k : Nat} {s : Std} (h : F[k]? = some s) : ∀ t ∈ s.1, PyData.strOk t = true := fun t ht => o.txt t (o.sub s (mem_of h) t ht)
def spNeedless (T : List (Addr × Str)) : Sp := fun vs H Q _ => ∃ (a b : Addr) (tags : List Str) (F : Form), vs = [.ref a, .ref b] ∧ WordAt H a tags ∧ FormAt H b F ∧ Good tags F ∧ WordsOk tags F ∧ tags.length ≤ 100 ∧ Tabs T H ∧
  ∀ (p : Addr) (L : List Tri) (H' : Hp), Ext T H H' → Tabs T H' → NewF H H' p L (needless tags F) → Q (.ref p) H'
theorem ok_without_needless_ways (X : TX K mg) (TB : LamX.TabB base mg X.lam_c X.lam_P) : FnOk P w K mg base CX0 2 X.d_without_needless_ways.a X.d_without_needless_ways.fd ["tags", "standings"] (spNeedless (Tof X)) := by
  have nd := sc_without_needless_ways.nd
  refine X.lam_F.ok sc_without_needless_ways (fun vs H Q E h => ?_) (fun A outer s H vs Q E hr h => ?_)
  · obtain ⟨a, b, tags, F, rfl, _⟩ := h
    rfl
  · obtain ⟨a, b, tags, F, rfl, hT, hF, g, ok, htl, tb, k⟩ := h
    refine ⟨_, (pss_cons (ps_set (i := 2) nd rfl (Or.inl rfl) (pe_call (ok_copied X) (hr.mono (by decide)) rfl X.d_copied.mg X.d_copied.F.kp X.d_copied.b .nil pass0 (pa_cons (pv 1) pa_nil))) (pss_cons (ps_set (i := 3) nd rfl (Or.inl rfl) (pe_op op_rep (pe_lst (pa_cons pe_bl pa_nil)) (pe_callB (QB.call_lenK K) (by rfl) X.n_len PySem.boot_len (pa_cons (pv 1) pa_nil)))) (pss_cons (ps_for PassesOwn.never rfl (QB.pi_listK K (QL.pe_sortLamK (i := 1) (T := Tof X) K (by rfl) X.n_sorted X.n_len (QL.pe_range1 (by rfl) X.n_range (pe_callB (QB.call_lenK K) (by rfl) X.n_len PySem.boot_len (pa_cons (pv 1) pa_nil))) rfl rfl TB rfl (List.mem_singleton.mpr rfl) (fun p hp _ => by cases List.mem_singleton.mp hp; rfl) hr)) (pg_name (i := 4) nd rfl (Or.inl rfl)) (pss_cons (ps_asg (pe_ix (QB.ix_listK K) (pv 2) (pv 4) (fun _ _ => rfl)) (pg_tup (by rfl) (pgs_cons (pg_name (i := 5) nd rfl (Or.inl rfl)) (pgs_cons (pg_name (i := 6) nd rfl (Or.inl rfl)) (pgs_nil))))) (pss_cons (ps_for PassesOwn.never rfl (QB.pi_enumK K (by rfl) X.n_enumerate (pa_cons (pv 0) pa_nil)) (pg_tup (by rfl) (pgs_cons (pg_name (i := 7) nd rfl (Or.inl rfl)) (pgs_cons (pg_name (i := 8) nd rfl (Or.inl rfl)) (pgs_nil)))) (pss_cons (ps_set (i := 9) nd rfl (Or.inl rfl) (pe_ix (QB.ix_listK K) (pv 6) (pv 7) (fun _ _ => rfl))) (pss_one (ps_if (PW.pt (pw_and (pt_cmpR op_notN (pv 9) pe_non (nomark _)) (pw_and (pt_val (pe_ix (QB.ix_listK K) (pv 3) (pv 9) (fun _ _ => rfl))) (pw_and1 (pt_cmpR (QB.op_eqDK K hr.units) (pe_ix (QB.ix_tupK K) (pe_ix (QB.ix_listK K) (pv 1) (pv 9) (fun _ _ => rfl)) pe_int (fun _ _ => rfl)) (pe_op op_cat (pv 5) (pe_lst (pa_cons (pv 8) pa_nil))) (nomark _)))))) (pss_one (ps_asg pe_non (pg_sub (pv 6) (pv 7) set_list))) pss_nil)))) (pss_one (ps_asg (pe_call (ok_is_settled_at X) (hr.mono (by decide)) rfl X.d_is_settled_at.mg X.d_is_settled_at.F.kp X.d_is_settled_at.b .nil pass0 (pa_cons (pe_ix (QB.ix_listK K) (pv 2) (pv 4) (fun _ _ => rfl)) pa_nil)) (pg_sub (pv 3) (pv 4) set_list)))))) (pss_one (ps_ret (pv 2)))))), ?_⟩
    try dsimp only [Cx.nox, Cx.wish, cxOf]
    have hlen := g.pos
    have hsm := g.small
    -- needed = copied(standings); settled = [False] * len(standings)
    refine ⟨_, rfl, b, F, rfl, hF, by omega, fun p L H1 s1 nF => ?_⟩
    obtain ⟨vs1, hv1, hvl1⟩ := FormAt.lst (Same.form s1 hF)
    refine ⟨by show 1 ≤ sizeLine; decide, fun q0 hq0 => ?_⟩
    have s2 := Same.new s1 (o := .lst [V.bl false]) hq0
    refine ⟨_, rfl, _, _, rfl, .inl (SqL.of ((same_new hq0) _ _ hv1)), ?_⟩
    refine ⟨_, _, _, rfl, rfl, upd_same, by omega, by omega, by rw [Int.toNat_natCast, hvl1]; exact sz_le (by simp; omega), fun q hq => ?_⟩
    rw [Int.toNat_natCast, hvl1, rep_flat]
    have s3 := Same.new s2 (o := .lst (List.replicate F.length (V.bl false))) hq
    have s13 : Same H1 (upd (upd H1 q0 (.lst [V.bl false])) q (.lst (List.replicate F.length (V.bl false)))) := Same.new (same_new hq0) hq
    have nF3 := nF.same s13
    have q0n : H q = none := s2.free hq
    have npq : p ≠ q := ne_of_none ((same_new hq0) _ _ nF.lst) hq
    have qin : q ∉ inner L := fun z => by
      obtain ⟨xs, hx⟩ := nF.all.there z
      exact ne_of_none ((same_new hq0) _ _ hx) hq rfl
    have hq3 : (upd (upd H1 q0 (.lst [V.bl false])) q (.lst (List.replicate F.length (V.bl false)))) q = some (.lst ((List.replicate F.length false).map V.bl)) := by rw [upd_same, List.map_replicate]
    generalize (upd (upd H1 q0 (.lst [V.bl false])) q (.lst (List.replicate F.length (V.bl false)))) = H3 at s3 nF3 hq3 s13
    -- sorted(..)
    obtain ⟨ts, hts, hpr⟩ := Same.form s3 hF
    have htsl := Paired.length hpr
    refine ⟨_, rfl, _, _, rfl, .inl (SqL.of hts), _, rfl, fun r hr0 => ?_⟩
    rw [List.length_map, htsl]
    have s4 := Same.new s3 (o := .rng 0 (F.length : Int)) hr0
    have s34 : Same H3 (upd H3 r (.rng 0 (F.length : Int))) := same_new hr0
    refine ⟨r, F.length, b, ts, keyOf F, rfl, upd_same, by omega, rfl, SqL.of (s34 _ _ hts), htsl, fun j t ht => ?_, tb.ext s4, fun p5 H5 e5 t5 n5 => ?_⟩
    · obtain ⟨s, hs, x, y, h1, h2, h3⟩ := paired_get' hpr ht
      refine ⟨x, [.ref y], vS s.1, SqT.of (s34 _ _ h1), SqL.of (s34 _ _ h2), ?_⟩
      unfold keyOf
      rw [vS_len]
      have hj := (List.getElem?_eq_some_iff.mp hs).1
      rw [stdOf_get hj] at hs
      cases hs
      rfl
    · have E5 : Ext (Tof X) H H5 := (Ext.of s4).trans ⟨e5, fun _ => t5⟩
      have E35 : Ext (Tof X) H3 H5 := (Ext.of s34).trans ⟨e5, fun _ => t5⟩
      have f5 : Fresh H p5 := E5.free n5
      have E6 := E5.new' (o := .lst ((byLen F).map fun (j : Nat) => V.int (j : Int))) n5
      have E56 : Ext (Tof X) H3 (upd H5 p5 (.lst ((byLen F).map fun (j : Nat) => V.int (j : Int)))) := E35.new' n5
      have T6 := E6.2 tb
      refine ⟨p5, rfl, ⟨_, SqL.of upd_same⟩, ?_⟩
      have nF6 := nF3.ext E56
      have hq6 := E56.lst hq3
      have n5p : p ≠ p5 := ne_of_none (E35.lst nF3.lst) n5
      have n5q : q ≠ p5 := ne_of_none (E35.lst hq3) n5
      have n5i : p5 ∉ inner L := fun z => by
        obtain ⟨xs, hx⟩ := nF3.all.there z
        exact ne_of_none (E35.lst hx) n5 rfl
      have hblen := byLen_len F
      refine for_it (walk_list (K := K) (a := p5) (xs := (byLen F).map fun (j : Nat) => V.int (j : Int))) (fun i σ H' => ∃ (v4 v5 v6 v7 v8 v9 : Option V), σ = [some (.ref a), some (.ref b), some (.ref p), some (.ref q), v4, v5, v6, v7, v8, v9] ∧ Ext (Tof X) H H' ∧ Tabs (Tof X) H' ∧
        H' p = some (.lst (L.map fun x => V.ref x.1)) ∧ NewL H H' L (needFold tags F ((byLen F).take i)).1 ∧ H' q = some (.lst ((needFold tags F ((byLen F).take i)).2.map V.bl)) ∧ H' p5 = some (.lst ((byLen F).map fun (j : Nat) => V.int (j : Int))))
        ⟨none, none, none, none, none, none, rfl, E6, T6, nF6.lst, nF6.all, hq6, upd_same⟩ (fun i σ H' _ ⟨_, _, _, _, _, _, _, _, _, _, _, _, h⟩ => SqL.of h) ?_ ?_
      · rintro i x σ H7 H8 hi ⟨v4, v5, v6, v7, v8, v9, rfl, E7, T7, hp7, nL7, hq7, h57⟩ ⟨rfl, hx⟩
        rw [List.length_map, hblen] at hi
        have hbi : (byLen F)[i]? = some ((byLen F)[i]'(by omega)) := List.getElem?_eq_getElem _
        have hstep : needFold tags F ((byLen F).take (i + 1)) = needStep tags F (needFold tags F ((byLen F).take i)) ((byLen F)[i]'(by omega)) := by
          unfold needFold
          rw [List.take_succ, hbi, List.foldl_append]
          rfl
        have hkF : (byLen F)[i]'(by omega) < F.length := byLen_lt (List.mem_of_getElem? hbi)
        have pr : Pruned tags F (needFold tags F ((byLen F).take i)) := Pruned.fold g _ _ (Pruned.start tags F) fun k hk => byLen_lt (List.mem_of_mem_take hk)
        rw [List.getElem?_map, hbi] at hx
        cases hx
        rw [hstep]
        generalize (byLen F)[i]'(by omega) = kk at hkF
        generalize needFold tags F ((byLen F).take i) = st at nL7 hq7 pr
        obtain ⟨N, S⟩ := st
        have hNl : N.length = F.length := pr.len
        have hSl : S.length = F.length := pr.lenS
        have hN : N[kk]? = some (stdOf N kk) := stdOf_get (by omega)
        obtain ⟨w1, w2, w3⟩ := pr.word kk _ hN
        have hsl : (stdOf N kk).2.length = tags.length := w2.trans (g.ways (stdOf_get hkF))
        have hPl : (pruneWays tags F S (stdOf N kk)).length = (stdOf N kk).2.length := (pruneWays_len hsl).trans hsl.symm
        have hwF : (stdOf N kk).1.length ≤ 5000 := by rw [w1]; exact ok.len _ (mem_of (stdOf_get hkF))
        have hwok : ∀ t ∈ (stdOf N kk).1, PyData.strOk t = true := by rw [w1]; exact ok.ok (stdOf_get hkF)
        have hstp : needStep tags F (N, S) kk = (N.set kk ((stdOf N kk).1, pruneWays tags F S (stdOf N kk)), S.set kk ((pruneWays tags F S (stdOf N kk)).all Option.isNone)) := rfl
        rw [hstp]
        have hPg : ∀ (j : Nat) (t : Str) (y : Option Nat), tags[j]? = some t → (stdOf N kk).2[j]? = some y → (pruneWays tags F S (stdOf N kk))[j]? = some (pruneWay F S (stdOf N kk).1 t y) := fun j t y h1 h2 => pruneWays_get h1 h2
        generalize pruneWays tags F S (stdOf N kk) = Pw at hPl hPg
        generalize stdOf N kk = sd at hN w1 w2 w3 hsl hPl hwF hwok hPg
        obtain ⟨x3, hx3, g1, g2, g3⟩ := NewL.get nL7 hN
        have hfr := nL7.new x3 (List.mem_of_getElem? hx3)
        have hin3 : x3.2.2 ∈ inner L := List.mem_flatMap.mpr ⟨x3, List.mem_of_getElem? hx3, by simp⟩
        have np3 : p ≠ x3.2.2 := fun z => nF.out (z ▸ hin3)
        have nq3 : q ≠ x3.2.2 := fun z => qin (z ▸ hin3)
        have n53 : p5 ≠ x3.2.2 := fun z => n5i (z ▸ hin3)
        refine ⟨_, rfl, _, rfl, _, _, _, _, rfl, rfl, SqL.of hp7, atI_nat (tri_get hx3), ?_⟩
        refine ⟨x3.1, _, rfl, SqT.of g1, rfl, _, _, rfl, _, _, rfl, rfl, ?_⟩
        refine ⟨_, rfl, _, _, rfl, SqL.of (E7.word hT), ?_⟩
        refine for_it (walk_enumW (K := K) (a := a) (w := tags)) (fun j σ H' => ∃ (v7 v8 v9 : Option V), σ = [some (.ref a), some (.ref b), some (.ref p), some (.ref q), some (.int (kk : Int)), some (.ref x3.2.1), some (.ref x3.2.2), v7, v8, v9] ∧ Ext (Tof X) H H' ∧
          H' p = some (.lst (L.map fun x => V.ref x.1)) ∧ NewL H H' L (N.set kk (sd.1, Pw.take j ++ sd.2.drop j)) ∧ H' q = some (.lst (S.map V.bl)) ∧ H' p5 = some (.lst ((byLen F).map fun (j : Nat) => V.int (j : Int))))
          ⟨v7, v8, v9, rfl, E7, hp7, by rw [show (sd.1, Pw.take 0 ++ sd.2.drop 0) = sd from rfl, set_same hN]; exact nL7, hq7, h57⟩ (fun j σ H' _ ⟨_, _, _, _, E, _⟩ => E.word hT) ?_ ?_
        · rintro j v σ H9 H10 hj ⟨u7, u8, u9, rfl, E9, hp9, nL9, hq9, h59⟩ ⟨tp, t, ht, ntp, rfl, rfl⟩
          have htt : t ∈ tags := List.mem_of_getElem? ht
          have s9 : Same H9 (upd H9 tp (.tup [.int (j : Int), .str t])) := same_new ntp
          have E10 := E9.trans (.of s9)
          have nL10 := nL9.same s9
          have hp10 := s9 _ _ hp9
          have hq10 := s9 _ _ hq9
          have h510 := s9 _ _ h59
          refine ⟨tp, _, rfl, SqT.of upd_same, rfl, _, _, rfl, _, _, rfl, rfl, ?_⟩
          generalize upd H9 tp (.tup [.int (j : Int), .str t]) = H10 at s9 E10 nL10 hp10 hq10 h510
          have hj2 : j < sd.2.length := by omega
          have hy : sd.2[j]? = some sd.2[j] := List.getElem?_eq_getElem hj2
          have hset : (N.set kk (sd.1, Pw.take j ++ sd.2.drop j))[kk]? = some (sd.1, Pw.take j ++ sd.2.drop j) := List.getElem?_set_self (by omega)
          obtain ⟨x', hx', y1, y2, y3⟩ := nL10.get hset
          rw [hx3] at hx'
          cases hx'
          have hmix : (Pw.take j ++ sd.2.drop j)[j]? = some sd.2[j] := (mix_get hPl hj2).trans hy
          have hPj := hPg j t _ ht hy
          refine ⟨_, rfl, _, rfl, _, _, _, _, rfl, rfl, SqL.of y3, atI_nat (vWs_get hmix), ?_⟩
          refine ⟨_, rfl, rfl, _, rfl, ?_⟩
          rw [vW_is]
          -- the way stays
          have stay : ∀ (H' : Hp) (u9 : V), Same H10 H' → Pw[j]? = some sd.2[j] → ∃ (v7 v8 v9 : Option V), [some (V.ref a), some (.ref b), some (.ref p), some (.ref q), some (.int (kk : Int)), some (.ref x3.2.1), some (.ref x3.2.2), some (.int (j : Int)), some (.str t), some u9] = [some (.ref a), some (.ref b), some (.ref p), some (.ref q), some (.int (kk : Int)), some (.ref x3.2.1), some (.ref x3.2.2), v7, v8, v9] ∧ Ext (Tof X) H H' ∧
              H' p = some (.lst (L.map fun x => V.ref x.1)) ∧ NewL H H' L (N.set kk (sd.1, Pw.take (j + 1) ++ sd.2.drop (j + 1))) ∧ H' q = some (.lst (S.map V.bl)) ∧ H' p5 = some (.lst ((byLen F).map fun (j : Nat) => V.int (j : Int))) := fun H' u9 s' e =>
            ⟨_, _, _, rfl, E10.trans (.of s'), s' _ _ hp10, by rw [← mix_same hPl e hy]; exact nL10.same s', s' _ _ hq10, s' _ _ h510⟩
          generalize sd.2[j] = y at hy hmix hPj stay
          cases y with
          | none => exact iteF (stay H10 _ (Same.refl _) hPj)
          | some n =>
            have hnF : n < F.length := g.to _ (mem_of (stdOf_get hkF)) n (w3 n (List.mem_of_getElem? hy))
            have hSn : (S.map V.bl)[n]? = some (.bl (S.getD n false)) := by
              rw [List.getElem?_map, List.getElem?_eq_getElem (by omega), List.getD_eq_getElem?_getD, List.getElem?_eq_getElem (by omega)]
              rfl
            refine iteT ?_
            refine ⟨_, rfl, _, rfl, _, _, _, _, rfl, rfl, SqL.of hq10, atI_nat hSn, _, rfl, ?_⟩
            have hPj' : Pw[j]? = some (if (S.getD n false && decide ((stdOf F n).1 = sd.1 ++ [t])) = true then none else some n) := hPj
            cases hSb : S.getD n false with
            | false =>
              rw [hSb, Bool.false_and, if_neg Bool.false_ne_true] at hPj'
              exact iteF (stay H10 _ (Same.refl _) hPj')
            | true =>
              rw [hSb, Bool.true_and] at hPj'
              refine iteT ?_
              obtain ⟨vs2, tt, z1, z2, f1, f2, f3, f4, f5, f6⟩ := (E10.form hF).at (stdOf_get hnF)
              refine ⟨_, rfl, _, rfl, _, _, _, _, rfl, rfl, SqL.of f1, atI_nat f3, _, _, _, _, rfl, rfl, SqT.of f4, rfl, ?_⟩
              refine ⟨_, rfl, _, rfl, by show 1 ≤ sizeLine; decide, fun r1 hr1 => ?_⟩
              have sA : Same H10 (upd H10 r1 (.lst [V.str t])) := same_new hr1
              refine ⟨_, _, _, _, rfl, rfl, sA _ _ y2, upd_same, by rw [vS_len]; exact sz_le (by simp; omega), fun r2 hr2 => ?_⟩
              have sB : Same H10 (upd (upd H10 r1 (.lst [V.str t])) r2 (.lst (vS sd.1 ++ [V.str t]))) := Same.new sA hr2
              have hw2 : WordAt (upd (upd H10 r1 (.lst [V.str t])) r2 (.lst (vS sd.1 ++ [V.str t]))) r2 (sd.1 ++ [t]) := by
                unfold WordAt
                rw [upd_same, ← vS_append]
                rfl
              generalize upd (upd H10 r1 (.lst [V.str t])) r2 (.lst (vS sd.1 ++ [V.str t])) = H11 at sB hw2
              refine eq_words (Same.word sB f5) hw2 (ok.ok (stdOf_get hnF)) (fun u hu => ?_) ⟨_, rfl, ?_⟩
              · rcases List.mem_append.mp hu with hu | hu
                · exact hwok u hu
                · rw [List.mem_singleton.mp hu]
                  exact ok.txt t htt
              · by_cases he : (stdOf F n).1 = sd.1 ++ [t]
                · rw [if_pos (decide_eq_true he)] at hPj'
                  rw [if_pos (decide_eq_true he)]
                  have E11 := E10.trans (.of sB)
                  have nL11 := nL10.same sB
                  have y11 := Same.ways sB y3
                  refine ⟨_, rfl, _, rfl, x3.2.2, _, _, j, rfl, rfl, y11, ixN_of (by rw [vWs_len, List.length_append, List.length_take, List.length_drop]; omega), ?_⟩
                  have en := nL11.setWays (ws := (Pw.take j ++ sd.2.drop j).set j none) hx3 hset
                  rw [List.set_set, mix_set hPl hPj'] at en
                  have ew : (vWs (Pw.take j ++ sd.2.drop j)).set j .non = vWs (Pw.take (j + 1) ++ sd.2.drop (j + 1)) := by
                    rw [show V.non = vW none from rfl, vWs_set, mix_set hPl hPj']
                  rw [ew]
                  exact ⟨_, _, _, rfl, E11.mut hfr.2.2 y11, (upd_ne np3).trans (sB _ _ hp10), en, (upd_ne nq3).trans (sB _ _ hq10), (upd_ne n53).trans (sB _ _ h510)⟩
                · rw [if_neg (by simpa using he)] at hPj'
                  rw [if_neg (by simpa using he)]
                  exact stay H11 _ sB hPj'
        · rintro σ H9 ⟨u7, u8, u9, rfl, E9, hp9, nL9, hq9, h59⟩
          have hfull : Pw.take tags.length ++ sd.2.drop tags.length = Pw := by
            rw [List.take_of_length_le (by omega), List.drop_eq_nil_of_le (by omega), List.append_nil]
          rw [hfull] at nL9
          have hset : (N.set kk (sd.1, Pw))[kk]? = some (sd.1, Pw) := List.getElem?_set_self (by omega)
          obtain ⟨x', hx', y1, y2, y3⟩ := nL9.get hset
          rw [hx3] at hx'
          cases hx'
          refine ⟨_, rfl, _, rfl, _, _, _, _, rfl, rfl, SqL.of hp9, atI_nat (tri_get hx3), ?_⟩
          refine ⟨_, _, _, Pw, rfl, y1, y3, by omega, fun H10 s10 => ?_⟩
          refine ⟨_, rfl, _, rfl, q, _, _, kk, rfl, rfl, s10 _ _ hq9, ixN_of (by rw [List.length_map]; omega), ?_⟩
          have E10 := E9.trans (.of s10)
          have E11 := E10.mut (o := .lst ((S.map V.bl).set kk (.bl (Pw.all Option.isNone)))) (.of q0n) (s10 _ _ hq9)
          refine ⟨_, _, _, _, _, _, rfl, E11, E11.2 tb, (upd_ne npq).trans (s10 _ _ hp9), (nL9.same s10).upd (s10 _ _ hq9) qin, ?_, (upd_ne n5q.symm).trans (s10 _ _ h59)⟩
          rw [upd_same, List.map_set]
      · rintro σ H7 ⟨v4, v5, v6, v7, v8, v9, rfl, E7, T7, hp7, nL7, hq7, h57⟩
        rw [List.length_map, hblen, ← hblen, List.take_length] at nL7
        exact ⟨_, rfl, k p L H7 E7 T7 ⟨hp7, nL7, nF.new, nF.out⟩⟩
end
end Law
end

section
set_option Elab.async false
set_option linter.all false
set_option maxRecDepth 100000
set_option maxHeartbeats 8000000
namespace Law
open PySem PySem.Spec PyProof.Rows L2 LamX QB QM
section
variable {P : Program} {w : World} {K : PySem.W.Frag} {mg : Str → Option Value} {base : Heap}
theorem pruned_needless {tags : List Str} {F : Form} (g : Good tags F) : Pruned tags F (needFold tags F (byLen F)) := Pruned.fold g _ _ (Pruned.start tags F) fun k hk => byLen_lt hk
theorem needless_len {tags : List Str} {F : Form} (g : Good tags F) : (needless tags F).length = F.length := (pruned_needless g).len
theorem needless_std {tags : List Str} {F : Form} (g : Good tags F) {s : Std} (h : s ∈ needless tags F) : ∃ s' ∈ F, s.1 = s'.1 ∧ s.2.length = s'.2.length ∧ ∀ n, some n ∈ s.2 → some n ∈ s'.2 := by
  obtain ⟨k, hk, e⟩ := List.mem_iff_getElem.mp h
  have e' : (needless tags F)[k]? = some s := by rw [List.getElem?_eq_getElem hk, e]
  obtain ⟨h1, h2, h3⟩ := (pruned_needless g).word k s e'
  have hkF : k < F.length := by rw [← needless_len g]; exact hk
  exact ⟨stdOf F k, mem_of (stdOf_get hkF), h1, h2, h3⟩
theorem needless_in {tags : List Str} {F : Form} (g : Good tags F) (ht : tags.length ≤ 100) : WaysIn (needless tags F) := fun s hs => by
  obtain ⟨s', h1, h2, h3, h4⟩ := needless_std g hs
  exact ⟨by rw [h3, g.len s' h1]; exact ht, fun n hn => by rw [needless_len g]; exact g.to s' h1 n (h4 n hn)⟩
theorem alike_len {F : Form} : (alike F).length = F.length := by
  have all : ∀ (f many : Nat) (cs : List Nat), cs.length = F.length → (alikeLoop F f many cs).length = F.length := by
    intro f
    induction f with
    | zero => exact fun _ _ h => h
    | succ f ih =>
      intro many cs h
      unfold alikeLoop
      split
      · exact ih _ _ (part_len h)
      · exact h
  exact all _ _ _ (by rw [QD.numb_len]; exact List.length_map _)
def spLeast (T : List (Addr × Str)) : Sp := fun vs H Q _ => ∃ (a b : Addr) (tags : List Str) (F : Form), vs = [.ref a, .ref b] ∧ WordAt H a tags ∧ FormAt H b F ∧ Good tags F ∧ WordsOk tags F ∧ tags.length ≤ 100 ∧ Tabs T H ∧
  ∀ (p : Addr) (L : List Tri) (H' : Hp), Ext T H H' → Tabs T H' → NewF H H' p L (least tags F) → Q (.ref p) H'
theorem ok_least_form (X : TX K mg) (TB : LamX.TabB base mg X.lam_c X.lam_P) : FnOk P w K mg base CX0 4 X.d_least_form.a X.d_least_form.fd ["tags", "standings"] (spLeast (Tof X)) := by
  have nd := sc_least_form.nd
  refine X.d_least_form.F.ok sc_least_form (fun vs H Q E h => ?_) (fun cdv A outer s H vs Q E hr h => ?_)
  · obtain ⟨a, b, tags, F, rfl, _⟩ := h
    rfl
  · obtain ⟨a, b, tags, F, rfl, hT, hF, g, ok, htl, tb, k⟩ := h
    refine ⟨_, (pss_cons (ps_set (i := 2) nd rfl (Or.inl rfl) (pe_call (ok_without_needless_ways X TB) (hr.mono (by decide)) rfl X.d_without_needless_ways.mg X.d_without_needless_ways.F.kp X.d_without_needless_ways.b .nil pass0 (pa_cons (pv 0) (pa_cons (pv 1) pa_nil)))) (pss_one (ps_ret (pe_call (ok_in_order_met X) (hr.mono (by decide)) rfl X.d_in_order_met.mg X.d_in_order_met.F.kp X.d_in_order_met.b .nil pass0 (pa_cons (pv 2) (pa_cons (pe_call (ok_alike_classes X) (hr.mono (by decide)) rfl X.d_alike_classes.mg X.d_alike_classes.F.kp X.d_alike_classes.b .nil pass0 (pa_cons (pv 2) pa_nil)) pa_nil)))))), ?_⟩
    try dsimp only [Cx.nox, Cx.wish, cxOf]
    have hsm := g.small
    have hpos := g.pos
    refine ⟨_, rfl, _, rfl, a, b, tags, F, rfl, hT, hF, g, ok, htl, tb, fun p L H1 e1 t1 n1 => ?_⟩
    have hlen := needless_len g
    have hin := needless_in g htl
    have hwl : ∀ s ∈ needless tags F, s.1.length ≤ 10000 := fun s hs => by
      obtain ⟨s', h1, h2, _⟩ := needless_std g hs
      rw [h2]
      have := ok.len s' h1
      omega
    refine ⟨_, rfl, _, rfl, p, needless tags F, rfl, n1.form, by omega, by omega, hin, hwl, fun c H2 s2 nc hc => ?_⟩
    refine ⟨p, c, needless tags F, alike (needless tags F), H, L, rfl, n1.same s2, fun q hq => (e1.trans (.of s2)).free hq, hc, alike_len, by omega, by omega, hin, fun q L2 H3 s3 n3 => ?_⟩
    have e3 := (e1.trans (.of s2)).trans (.of s3)
    exact k q L2 H3 e3 (e3.2 tb) n3
end
end Law
end

section
set_option Elab.async false
set_option linter.all false
set_option maxRecDepth 100000
set_option maxHeartbeats 8000000
namespace Law
open PySem PySem.Spec PyProof.Rows L2 LamX QB QM
theorem kit_int_int {K : PySem.W.Frag} : PySem.W.kitOne K (.type "int") (.type "int") = some true := kit_ty (by decide +kernel)
theorem kit_int_bool {K : PySem.W.Frag} : PySem.W.kitOne K (.type "int") (.type "bool") = some false := kit_ty (by decide +kernel)
theorem kit_list_list {K : PySem.W.Frag} : PySem.W.kitOne K (.type "list") (.type "list") = some true := kit_ty (by decide +kernel)
theorem kit_str_str {K : PySem.W.Frag} : PySem.W.kitOne K (.type "str") (.type "str") = some true := kit_ty (by decide +kernel)
theorem kit_tuple_tuple {K : PySem.W.Frag} : PySem.W.kitOne K (.type "tuple") (.type "tuple") = some true := kit_ty (by decide +kernel)
section
variable {P : Program} {w : World} {K : PySem.W.Frag} {mg : Str → Option Value} {base : Heap}
/-- is_number of a whole number -/
def spIsNumber : Sp := fun vs H Q _ => ∃ (n lo hi : Int), vs = [.int n, .int lo, .int hi] ∧ Q (.bl (decide (lo ≤ n ∧ n ≤ hi))) H
theorem ok_is_number (X : TX K mg) : FnOk P w K mg base CX0 1 X.d_is_number.a X.d_is_number.fd ["x", "least", "most"] spIsNumber := by
  have nd := sc_is_number.nd
  refine X.d_is_number.F.ok sc_is_number (fun vs H Q E h => ?_) (fun cdv A outer s H vs Q E hr h => ?_)
  · obtain ⟨n, lo, hi, rfl, _⟩ := h
    rfl
  · obtain ⟨n, lo, hi, rfl, k⟩ := h
    refine ⟨_, (pss_one (ps_ret (pe_and (pe_callB (QB.call_isiK K) (by rfl) X.n_isinstance QB.bo_isinstance (pa_cons (pv 0) (pa_cons (pe_bltn (v := .ty "int") (by rfl) X.n_int QB.bo_int rfl) pa_nil))) (pe_and (pe_not (pe_callB (QB.call_isiK K) (by rfl) X.n_isinstance QB.bo_isinstance (pa_cons (pv 0) (pa_cons (pe_bltn (v := .ty "bool") (by rfl) X.n_bool QB.bo_bool rfl) pa_nil)))) (pe_one (pe_chain op_le op_le (pv 1) (pv 0) (pv 2))))))), ?_⟩
    try dsimp only [Cx.nox, Cx.wish, cxOf]
    refine ⟨_, rfl, _, _, _, _, true, rfl, .ty "int", .base (.int n), kit_int_int, true, rfl, ?_⟩
    refine iteT ?_
    refine ⟨_, rfl, _, _, _, _, false, rfl, .ty "bool", .base (.int n), kit_int_bool, false, rfl, true, rfl, ?_⟩
    refine iteT ?_
    refine ⟨_, rfl, _, rfl, _, _, rfl, rfl, _, rfl, ?_⟩
    by_cases h1 : lo ≤ n
    · rw [if_pos (decide_eq_true h1)]
      refine ⟨_, rfl, _, _, rfl, rfl, ?_⟩
      have e : decide (lo ≤ n ∧ n ≤ hi) = decide (n ≤ hi) := by simp [h1]
      rw [e] at k
      exact k
    · rw [if_neg (by simpa using h1)]
      have e : decide (lo ≤ n ∧ n ≤ hi) = false := by simp [h1]
      rw [e] at k
      exact k
/-- is_list of a list -/
def spIsList : Sp := fun vs H Q _ => ∃ (a : Addr) (xs : List V) (lo hi : Int), vs = [.ref a, .int lo, .int hi] ∧ H a = some (.lst xs) ∧ Q (.bl (decide (lo ≤ (xs.length : Int) ∧ (xs.length : Int) ≤ hi))) H
theorem ok_is_list (X : TX K mg) : FnOk P w K mg base CX0 1 X.d_is_list.a X.d_is_list.fd ["x", "least", "most"] spIsList := by
  have nd := sc_is_list.nd
  refine X.d_is_list.F.ok sc_is_list (fun vs H Q E h => ?_) (fun cdv A outer s H vs Q E hr h => ?_)
  · obtain ⟨a, xs, lo, hi, rfl, _⟩ := h
    rfl
  · obtain ⟨a, xs, lo, hi, rfl, ha, k⟩ := h
    refine ⟨_, (pss_one (ps_ret (pe_and (pe_callB (QB.call_isiK K) (by rfl) X.n_isinstance QB.bo_isinstance (pa_cons (pv 0) (pa_cons (pe_bltn (v := .ty "list") (by rfl) X.n_list QB.bo_list rfl) pa_nil))) (pe_one (pe_chain op_le op_le (pv 1) (pe_callB (QB.call_lenK K) (by rfl) X.n_len PySem.boot_len (pa_cons (pv 0) pa_nil)) (pv 2)))))), ?_⟩
    try dsimp only [Cx.nox, Cx.wish, cxOf]
    refine ⟨_, rfl, _, _, _, _, true, rfl, .ty "list", .base (.lst ha), kit_list_list, true, rfl, ?_⟩
    refine iteT ?_
    refine ⟨_, rfl, _, rfl, _, _, rfl, .inl (SqL.of ha), _, _, rfl, rfl, _, rfl, ?_⟩
    by_cases h1 : lo ≤ (xs.length : Int)
    · rw [if_pos (decide_eq_true h1)]
      refine ⟨_, rfl, _, _, rfl, rfl, ?_⟩
      have e : decide (lo ≤ (xs.length : Int) ∧ (xs.length : Int) ≤ hi) = decide ((xs.length : Int) ≤ hi) := by simp [h1]
      rw [e] at k
      exact k
    · rw [if_neg (by simpa using h1)]
      have e : decide (lo ≤ (xs.length : Int) ∧ (xs.length : Int) ≤ hi) = false := by simp [h1]
      rw [e] at k
      exact k
def letters : Str := "abcdefghijklmnopqrstuvwxyz"
/-- a name of a tag -/
structure NameOk (t : Str) : Prop where
  pos : 1 ≤ t.length
  len : t.length ≤ 8
  all : ∀ c ∈ t.cps.toList, c ∈ letters.cps.toList
theorem NameOk.txt {t : Str} (h : NameOk t) : PyData.strOk t = true := by
  unfold PyData.strOk
  rw [← Array.all_toList, List.all_eq_true]
  intro c hc
  have := h.all c hc
  have small : ∀ c ∈ letters.cps.toList, decide (c < 0x110000) = true := by decide +kernel
  exact small c this
def spIsName : Sp := fun vs H Q _ => ∃ t : Str, vs = [.str t] ∧ NameOk t ∧ ∀ H', Same H H' → Q (.bl true) H'
theorem ok_is_name (X : TX K mg) : FnOk P w K mg base CX0 1 X.d_is_name.a X.d_is_name.fd ["x"] spIsName := by
  have nd := sc_is_name.nd
  refine X.d_is_name.F.ok sc_is_name (fun vs H Q E h => ?_) (fun cdv A outer s H vs Q E hr h => ?_)
  · obtain ⟨t, rfl, _⟩ := h
    rfl
  · obtain ⟨t, rfl, ho, k⟩ := h
    refine ⟨_, (pss_cons (ps_if (PW.pt (pw_or (pt_not (pt_val (pe_callB (QB.call_isiK K) (by rfl) X.n_isinstance QB.bo_isinstance (pa_cons (pv 0) (pa_cons (pe_bltn (v := .ty "str") (by rfl) X.n_str QB.bo_str rfl) pa_nil))))) (pw_or1 (pt_not (pt_chain op_le op_le pe_int (pe_callB call_len_str (by rfl) X.n_len PySem.boot_len (pa_cons (pv 0) pa_nil)) (pe_gc rfl X.c_MOST_LETTERS)))))) (pss_one (ps_ret pe_bl)) pss_nil) (pss_one (ps_ret (pe_callB (QB.cr_allK K rfl) (by rfl) X.n_all QB.bo_all (pa_cons (pe_lc (own := [("letter", 1)]) (g := gName 1) (tt := tYes) rfl nd (pi_str (pv 0)) (blkOk_by (N := ["x", "letter"]) (sc := defScope s_is_name) (by decide +kernel)) (fun _ _ _ _ _ => pg_name (i := 1) nd rfl (Or.inl rfl)) (fun _ _ _ _ _ => pts_nil) (fun _ _ _ _ _ => (pe_cmpR op_in_sign (pv 1) (pe_gc rfl X.c_LETTERS) rfl))) pa_nil))))), ?_⟩
    try dsimp only [Cx.nox, Cx.wish, cxOf]
    have h1 := ho.pos
    have h8 := ho.len
    refine ⟨_, rfl, _, _, _, _, true, rfl, .ty "str", .base (.str t), kit_str_str, true, rfl, ?_⟩
    refine iteF ?_
    refine ⟨_, rfl, t, rfl, sz_le (by omega), _, _, rfl, rfl, _, rfl, ?_⟩
    rw [if_pos (decide_eq_true (by omega))]
    refine ⟨_, _, rfl, rfl, _, rfl, ?_⟩
    rw [decide_eq_true (by omega : (t.length : Int) ≤ 8)]
    refine iteF ?_
    refine ⟨_, rfl, t, rfl, fun D hD => ?_⟩
    refine lc_map walk_str hD (by have e : t.cps.size = t.length := rfl; omega) (fun _ _ => True.intro) (fun i => .bl true) ?_ ?_
    · rintro i x H1 H2 kk hi s1 ⟨rfl, c, hc, rfl⟩ hk
      refine ⟨rfl, _, rfl, c, letters, rfl, rfl, ?_⟩
      rw [decide_eq_true (ho.all c (by
        have := List.mem_of_getElem? (show t.cps.toList[i]? = some c by simpa using hc)
        exact this))]
      exact hk _ (Same.refl _)
    · intro H1 s1 e
      have e2 : (List.range t.cps.size).map (fun _ => V.bl true) = (List.replicate t.cps.size true).map V.bl := by
        rw [List.map_replicate, List.map_const', List.length_range]
      refine ⟨_, List.replicate t.cps.size true, rfl, SqL.of (by rw [← e2]; exact e), ?_⟩
      have e3 : (List.replicate t.cps.size true).all id = true := by
        rw [List.all_eq_true]
        intro b hb
        rw [List.eq_of_mem_replicate hb]
        rfl
      rw [e3]
      exact k H1 s1

def spIsTag : Sp := fun vs H Q _ => ∃ (a : Addr) (tags : List Str) (t : Str), vs = [.ref a, .str t] ∧ WordAt H a tags ∧ Q (.bl (decide (t ∈ tags))) H
theorem ok_is_tag (X : TX K mg) : FnOk P w K mg base CX0 1 X.d_is_tag.a X.d_is_tag.fd ["tags", "x"] spIsTag := by
  have nd := sc_is_tag.nd
  refine X.d_is_tag.F.ok sc_is_tag (fun vs H Q E h => ?_) (fun cdv A outer s H vs Q E hr h => ?_)
  · obtain ⟨a, tags, t, rfl, _⟩ := h
    rfl
  · obtain ⟨a, tags, t, rfl, ha, k⟩ := h
    refine ⟨_, (pss_one (ps_ret (pe_and (pe_callB (QB.call_isiK K) (by rfl) X.n_isinstance QB.bo_isinstance (pa_cons (pv 1) (pa_cons (pe_bltn (v := .ty "str") (by rfl) X.n_str QB.bo_str rfl) pa_nil))) (pe_one (pe_cmpR (QB.op_inK K) (pv 1) (pv 0) rfl))))), ?_⟩
    try dsimp only [Cx.nox, Cx.wish, cxOf]
    refine ⟨_, rfl, _, _, _, _, true, rfl, .ty "str", .base (.str t), kit_str_str, true, rfl, ?_⟩
    refine iteT ?_
    refine ⟨_, rfl, _, rfl, a, vS tags, rfl, .inl (SqL.of ha), rfl, vS_flat, ?_⟩
    show Q (.bl (if false = true then !inV (.str t) (vS tags) else inV (.str t) (vS tags))) H
    rw [if_neg Bool.false_ne_true, inV_word]
    exact k
def spIsSubject : Sp := fun vs H Q _ => ∃ (a b : Addr) (tags wd : List Str), vs = [.ref a, .ref b] ∧ WordAt H a tags ∧ WordAt H b wd ∧ wd.length ≤ 10000 ∧ ∀ H', Same H H' → Q (.bl (wd.all fun t => decide (t ∈ tags))) H'
theorem ok_is_subject (X : TX K mg) : FnOk P w K mg base CX0 2 X.d_is_subject.a X.d_is_subject.fd ["tags", "x"] spIsSubject := by
  have nd := sc_is_subject.nd
  refine X.d_is_subject.F.ok sc_is_subject (fun vs H Q E h => ?_) (fun cdv A outer s H vs Q E hr h => ?_)
  · obtain ⟨a, b, tags, wd, rfl, _⟩ := h
    rfl
  · obtain ⟨a, b, tags, wd, rfl, ha, hb, hz, k⟩ := h
    refine ⟨_, (pss_one (ps_ret (pe_and (pe_callB (QB.call_isiK K) (by rfl) X.n_isinstance QB.bo_isinstance (pa_cons (pv 1) (pa_cons (pe_bltn (v := .ty "list") (by rfl) X.n_list QB.bo_list rfl) pa_nil))) (pe_one (pe_callB (QB.cr_allK K rfl) (by rfl) X.n_all QB.bo_all (pa_cons (pe_lc (own := [("tag", 2)]) (g := gName 2) (tt := tYes) rfl nd (QB.pi_listK K (pv 1)) (blkOk_by (N := ["tags", "x", "tag"]) (sc := defScope s_is_subject) (by decide +kernel)) (fun _ _ _ _ _ => pg_name (i := 2) nd rfl (Or.inl rfl)) (fun _ _ _ _ _ => pts_nil) (fun _ _ _ _ _ => (pe_call (ok_is_tag X) (hr.mono (by decide)) rfl X.d_is_tag.mg X.d_is_tag.F.kp X.d_is_tag.b .nil pass0 (pa_cons (pv 0) (pa_cons (pv 2) pa_nil))))) pa_nil)))))), ?_⟩
    try dsimp only [Cx.nox, Cx.wish, cxOf]
    refine ⟨_, rfl, _, _, _, _, true, rfl, .ty "list", .base (.lst hb), kit_list_list, true, rfl, ?_⟩
    refine iteT ?_
    refine ⟨_, rfl, _, rfl, ⟨_, SqL.of hb⟩, fun D hD => ?_⟩
    refine lc_map (walk_listW (K := K) (a := b) (w := wd)) hD (by omega) (fun H1 s1 => Same.word s1 hb) (fun i => .bl (decide ((wd[i]?).getD "" ∈ tags))) ?_ ?_
    · rintro i x H1 H2 kk hi s1 ⟨y, hy, rfl, rfl⟩ hk
      refine ⟨rfl, _, rfl, _, rfl, a, tags, y, rfl, Same.word s1 ha, ?_⟩
      have e := hk _ (Same.refl H2)
      rw [hy] at e
      exact e
    · intro H1 s1 e
      rw [range_map_get _ wd (fun t => .bl (decide (t ∈ tags))) (fun i x hx => by rw [hx]; rfl)] at e
      refine ⟨_, wd.map fun t => decide (t ∈ tags), rfl, SqL.of (by rw [e, List.map_map]; rfl), ?_⟩
      have e2 := k H1 s1
      rw [List.all_map]
      exact e2
/-- standings that may be passed -/
structure StdOk (tags : List Str) (n : Nat) (s : Std) : Prop where
  len : s.1.length ≤ 8
  sub : ∀ t ∈ s.1, t ∈ tags
  ways : s.2.length = tags.length
  to : ∀ m, some m ∈ s.2 → m < n
structure FormOk (tags : List Str) (F : Form) : Prop where
  pos : 1 ≤ F.length
  len : F.length ≤ 30
  all : ∀ s ∈ F, StdOk tags F.length s
structure TagsOk (tags : List Str) : Prop where
  pos : 1 ≤ tags.length
  len : tags.length ≤ 6
  nd : tags.Nodup
  names : ∀ t ∈ tags, NameOk t
theorem FormOk.good {tags : List Str} {F : Form} (f : FormOk tags F) : Good tags F := ⟨f.pos, fun s hs => (f.all s hs).ways, fun s hs n hn => (f.all s hs).to n hn, by have := f.len; omega⟩
theorem FormOk.words {tags : List Str} {F : Form} (f : FormOk tags F) (t : TagsOk tags) : WordsOk tags F := ⟨fun x hx => (t.names x hx).txt, fun s hs => (f.all s hs).sub, fun s hs => by have := (f.all s hs).len; omega⟩
def spIsStanding : Sp := fun vs H Q _ => ∃ (a x p1 p2 : Addr) (tags : List Str) (n : Nat) (s : Std), vs = [.ref a, .int (n : Int), .ref x] ∧ WordAt H a tags ∧ H x = some (.tup [.ref p1, .ref p2]) ∧ WordAt H p1 s.1 ∧ WaysAt H p2 s.2 ∧ StdOk tags n s ∧ tags.length ≤ 100 ∧ ∀ H', Same H H' → Q (.bl true) H'
theorem ok_is_standing (X : TX K mg) : FnOk P w K mg base CX0 3 X.d_is_standing.a X.d_is_standing.fd ["tags", "many", "x"] spIsStanding := by
  have nd := sc_is_standing.nd
  refine X.d_is_standing.F.ok sc_is_standing (fun vs H Q E h => ?_) (fun cdv A outer s H vs Q E hr h => ?_)
  · obtain ⟨a, x, p1, p2, tags, n, s, rfl, _⟩ := h
    rfl
  · obtain ⟨a, x, p1, p2, tags, n, s, rfl, ha, hx, h1, h2, ok, htl, k⟩ := h
    refine ⟨_, (pss_cons (ps_if (PW.pt (pw_or (pt_not (pt_val (pe_callB (QB.call_isiK K) (by rfl) X.n_isinstance QB.bo_isinstance (pa_cons (pv 2) (pa_cons (pe_bltn (v := .ty "tuple") (by rfl) X.n_tuple QB.bo_tuple rfl) pa_nil))))) (pw_or1 (pt_cmpR op_ne (pe_callB (QB.call_lenK K) (by rfl) X.n_len PySem.boot_len (pa_cons (pv 2) pa_nil)) pe_int (nomark _))))) (pss_one (ps_ret pe_bl)) pss_nil) (pss_cons (ps_asg (pv 2) (pg_tup (by rfl) (pgs_cons (pg_name (i := 3) nd rfl (Or.inl rfl)) (pgs_cons (pg_name (i := 4) nd rfl (Or.inl rfl)) (pgs_nil))))) (pss_cons (ps_if (PW.pt (pw_or (pt_not (pt_val (pe_call (ok_is_list X) (hr.mono (by decide)) rfl X.d_is_list.mg X.d_is_list.F.kp X.d_is_list.b .nil pass0 (pa_cons (pv 3) (pa_cons pe_int (pa_cons (pe_gc rfl X.c_LONGEST_WORD) pa_nil)))))) (pw_or1 (pt_not (pt_val (pe_call (ok_is_subject X) (hr.mono (by decide)) rfl X.d_is_subject.mg X.d_is_subject.F.kp X.d_is_subject.b .nil pass0 (pa_cons (pv 0) (pa_cons (pv 3) pa_nil)))))))) (pss_one (ps_ret pe_bl)) pss_nil) (pss_cons (ps_if (pt_not (pt_val (pe_call (ok_is_list X) (hr.mono (by decide)) rfl X.d_is_list.mg X.d_is_list.F.kp X.d_is_list.b .nil pass0 (pa_cons (pv 4) (pa_cons (pe_callB (QB.call_lenK K) (by rfl) X.n_len PySem.boot_len (pa_cons (pv 0) pa_nil)) (pa_cons (pe_callB (QB.call_lenK K) (by rfl) X.n_len PySem.boot_len (pa_cons (pv 0) pa_nil)) pa_nil)))))) (pss_one (ps_ret pe_bl)) pss_nil) (pss_one (ps_ret (pe_callB (QB.cr_allK K rfl) (by rfl) X.n_all QB.bo_all (pa_cons (pe_lc (own := [("way", 5)]) (g := gName 5) (tt := tYes) rfl nd (QB.pi_listK K (pv 4)) (blkOk_by (N := ["tags", "many", "x", "word", "ways", "way"]) (sc := defScope s_is_standing) (by decide +kernel)) (fun _ _ _ _ _ => pg_name (i := 5) nd rfl (Or.inl rfl)) (fun _ _ _ _ _ => pts_nil) (fun _ _ _ _ _ => (pe_or (pe_cmpR op_isN (pv 5) pe_non (nomark _)) (pe_one (pe_call (ok_is_number X) (hr.mono (by decide)) rfl X.d_is_number.mg X.d_is_number.F.kp X.d_is_number.b .nil pass0 (pa_cons (pv 5) (pa_cons pe_int (pa_cons (pe_op op_sub (pv 1) pe_int) pa_nil)))))))) pa_nil)))))))), ?_⟩
    try dsimp only [Cx.nox, Cx.wish, cxOf]
    have o1 := ok.len
    have o2 := ok.ways
    refine ⟨_, rfl, _, _, _, _, true, rfl, .ty "tuple", .base (.tup hx), kit_tuple_tuple, true, rfl, ?_⟩
    refine iteF ?_
    refine ⟨_, rfl, _, _, rfl, .inr (SqT.of hx), rfl, _, rfl, ?_⟩
    refine iteF ?_
    refine ⟨_, rfl, x, _, rfl, SqT.of hx, rfl, _, _, rfl, _, _, rfl, rfl, ?_⟩
    refine ⟨_, rfl, p1, _, _, _, rfl, h1, _, rfl, ?_⟩
    rw [decide_eq_true (by rw [vS_len]; omega)]
    refine iteF ?_
    refine ⟨_, rfl, _, rfl, a, p1, tags, s.1, rfl, ha, h1, by omega, fun H1 s1 => ?_⟩
    rw [show (s.1.all fun t => decide (t ∈ tags)) = true from List.all_eq_true.mpr fun t ht => decide_eq_true (ok.sub t ht)]
    refine ⟨_, rfl, ?_⟩
    refine iteF ?_
    refine ⟨_, rfl, _, rfl, _, _, rfl, .inl (SqL.of (Same.word s1 ha)), _, rfl, _, _, rfl, .inl (SqL.of (Same.word s1 ha)), p2, _, _, _, rfl, Same.ways s1 h2, _, rfl, ?_⟩
    rw [decide_eq_true (by rw [vS_len, vWs_len]; omega)]
    refine iteF ?_
    refine ⟨_, rfl, _, rfl, ⟨_, SqL.of (Same.ways s1 h2)⟩, fun D hD => ?_⟩
    refine lc_map (walk_listWs (K := K) (a := p2) (ws := s.2)) hD (by omega) (fun H2 s2 => Same.ways (s1.trans s2) h2) (fun i => .bl true) ?_ ?_
    · rintro i v H2 H3 kk hi s2 ⟨y, hy, rfl, rfl⟩ hk
      have e := hk _ (Same.refl H3)
      refine ⟨rfl, _, rfl, rfl, _, rfl, ?_⟩
      rw [vW_is]
      cases y with
      | none => exact iteT e
      | some m =>
        have hm := ok.to m (List.mem_of_getElem? hy)
        refine iteF ?_
        refine ⟨_, rfl, _, rfl, _, _, rfl, rfl, _, _, _, rfl, ?_⟩
        rw [decide_eq_true (by omega)]
        exact e
    · intro H2 s2 e
      have e2 : (List.range s.2.length).map (fun _ => V.bl true) = (List.replicate s.2.length true).map V.bl := by
        rw [List.map_replicate, List.map_const', List.length_range]
      refine ⟨_, List.replicate s.2.length true, rfl, SqL.of (by rw [← e2]; exact e), ?_⟩
      have e3 : (List.replicate s.2.length true).all id = true := by
        rw [List.all_eq_true]
        intro b hb
        rw [List.eq_of_mem_replicate hb]
        rfl
      rw [e3]
      exact k H2 (s1.trans s2)
def spCheckTags : Sp := fun vs H Q _ => ∃ (a : Addr) (tags : List Str), vs = [.ref a] ∧ WordAt H a tags ∧ TagsOk tags ∧ ∀ H', Same H H' → Q .non H'
theorem ok_check_tags (X : TX K mg) : FnOk P w K mg base CX0 3 X.d_check_tags.a X.d_check_tags.fd ["tags"] spCheckTags := by
  have nd := sc_check_tags.nd
  refine X.d_check_tags.F.ok sc_check_tags (fun vs H Q E h => ?_) (fun cdv A outer s H vs Q E hr h => ?_)
  · obtain ⟨a, tags, rfl, _⟩ := h
    rfl
  · obtain ⟨a, tags, rfl, ha, ok, k⟩ := h
    refine ⟨_, (pss_cons (ps_if (pt_not (pt_val (pe_call (ok_is_list X) (hr.mono (by decide)) rfl X.d_is_list.mg X.d_is_list.F.kp X.d_is_list.b .nil pass0 (pa_cons (pv 0) (pa_cons pe_int (pa_cons (pe_gc rfl X.c_MOST_TAGS) pa_nil)))))) (pss_one ps_never) pss_nil) (pss_one (ps_for PassesOwn.never rfl (QB.pi_enumK K (by rfl) X.n_enumerate (pa_cons (pv 0) pa_nil)) (pg_tup (by rfl) (pgs_cons (pg_name (i := 1) nd rfl (Or.inl rfl)) (pgs_cons (pg_name (i := 2) nd rfl (Or.inl rfl)) (pgs_nil)))) (pss_one (ps_if (PW.pt (pw_or (pt_not (pt_val (pe_call (ok_is_name X) (hr.mono (by decide)) rfl X.d_is_name.mg X.d_is_name.F.kp X.d_is_name.b .nil pass0 (pa_cons (pv 2) pa_nil)))) (pw_or1 (pt_cmpR (QB.op_inK K) (pv 2) (pe_slice (QB.sl_listK K) (pv 0) po_none (po_some (pv 1))) rfl)))) (pss_one ps_never) pss_nil))))), ?_⟩
    try dsimp only [Cx.nox, Cx.wish, cxOf]
    have o1 := ok.pos
    have o2 := ok.len
    refine ⟨_, rfl, a, _, _, _, rfl, ha, _, rfl, ?_⟩
    rw [decide_eq_true (by rw [vS_len]; omega)]
    refine iteF ?_
    refine ⟨_, rfl, _, _, rfl, SqL.of ha, ?_⟩
    refine for_it (walk_enumW (K := K) (a := a) (w := tags)) (fun i σ H' => ∃ v1 v2, σ = [some (.ref a), v1, v2] ∧ Same H H') ⟨none, none, rfl, Same.refl H⟩ (fun i σ H' _ ⟨_, _, _, s1⟩ => Same.word s1 ha) ?_ ?_
    · rintro i v σ H1 H2 hi ⟨v1, v2, rfl, s1⟩ ⟨tp, t, ht, ntp, rfl, rfl⟩
      have s2 := Same.new s1 (o := .tup [.int (i : Int), .str t]) ntp
      refine ⟨tp, _, rfl, SqT.of upd_same, rfl, _, _, rfl, _, _, rfl, rfl, ?_⟩
      refine ⟨_, rfl, t, rfl, ok.names t (List.mem_of_getElem? ht), fun H3 s3 => ⟨_, rfl, ?_⟩⟩
      have s4 := s2.trans s3
      refine iteF ?_
      refine ⟨_, rfl, _, rfl, _, rfl, _, rfl, a, _, rfl, SqL.of (Same.word s4 ha), fun q hq => ?_⟩
      rw [cut_take, vS_take]
      refine ⟨q, _, rfl, .inl (SqL.of upd_same), rfl, vS_flat, _, rfl, ?_⟩
      rw [if_neg Bool.false_ne_true, inV_word]
      have hnot : t ∉ tags.take i := fun hm => by
        obtain ⟨j, hj, e⟩ := List.mem_iff_getElem.mp hm
        rw [List.length_take] at hj
        rw [List.getElem_take] at e
        have e2 : tags[j]? = some t := by rw [List.getElem?_eq_getElem (by omega), e]
        have := nd_ix ok.nd e2 ht
        omega
      rw [decide_eq_false hnot]
      exact iteF ⟨_, _, rfl, Same.new s4 hq⟩
    · rintro σ H1 ⟨v1, v2, rfl, s1⟩
      exact k H1 s1
def spCheckWord : Sp := fun vs H Q _ => ∃ (a b : Addr) (tags wd : List Str) (most : Int), vs = [.ref a, .ref b, .int most] ∧ WordAt H a tags ∧ WordAt H b wd ∧ (wd.length : Int) ≤ most ∧ (∀ t ∈ wd, t ∈ tags) ∧ ∀ H', Same H H' → Q .non H'
theorem ok_check_word (X : TX K mg) : FnOk P w K mg base CX0 3 X.d_check_word.a X.d_check_word.fd ["tags", "word", "most"] spCheckWord := by
  have nd := sc_check_word.nd
  refine X.d_check_word.F.ok sc_check_word (fun vs H Q E h => ?_) (fun cdv A outer s H vs Q E hr h => ?_)
  · obtain ⟨a, b, tags, wd, most, rfl, _⟩ := h
    rfl
  · obtain ⟨a, b, tags, wd, most, rfl, ha, hb, hz, hin, k⟩ := h
    refine ⟨_, (pss_cons (ps_if (pt_not (pt_val (pe_call (ok_is_list X) (hr.mono (by decide)) rfl X.d_is_list.mg X.d_is_list.F.kp X.d_is_list.b .nil pass0 (pa_cons (pv 1) (pa_cons pe_int (pa_cons (pv 2) pa_nil)))))) (pss_one ps_never) pss_nil) (pss_one (ps_for PassesOwn.never rfl (QB.pi_enumK K (by rfl) X.n_enumerate (pa_cons (pv 1) pa_nil)) (pg_tup (by rfl) (pgs_cons (pg_name (i := 3) nd rfl (Or.inl rfl)) (pgs_cons (pg_name (i := 4) nd rfl (Or.inl rfl)) (pgs_nil)))) (pss_one (ps_if (pt_not (pt_val (pe_call (ok_is_tag X) (hr.mono (by decide)) rfl X.d_is_tag.mg X.d_is_tag.F.kp X.d_is_tag.b .nil pass0 (pa_cons (pv 0) (pa_cons (pv 4) pa_nil))))) (pss_one ps_never) pss_nil))))), ?_⟩
    try dsimp only [Cx.nox, Cx.wish, cxOf]
    refine ⟨_, rfl, _, rfl, b, _, _, _, rfl, hb, _, rfl, ?_⟩
    rw [decide_eq_true (by rw [vS_len]; omega)]
    refine iteF ?_
    refine ⟨_, rfl, _, _, rfl, SqL.of hb, ?_⟩
    refine for_it (walk_enumW (K := K) (a := b) (w := wd)) (fun i σ H' => ∃ v3 v4, σ = [some (.ref a), some (.ref b), some (.int most), v3, v4] ∧ Same H H') ⟨none, none, rfl, Same.refl H⟩ (fun i σ H' _ ⟨_, _, _, s1⟩ => Same.word s1 hb) ?_ ?_
    · rintro i v σ H1 H2 hi ⟨v1, v2, rfl, s1⟩ ⟨tp, t, ht, ntp, rfl, rfl⟩
      have s2 := Same.new s1 (o := .tup [.int (i : Int), .str t]) ntp
      refine ⟨tp, _, rfl, SqT.of upd_same, rfl, _, _, rfl, _, _, rfl, rfl, ?_⟩
      refine ⟨_, rfl, _, rfl, a, tags, t, rfl, Same.word s2 ha, _, rfl, ?_⟩
      rw [decide_eq_true (hin t (List.mem_of_getElem? ht))]
      exact iteF ⟨_, _, rfl, s2⟩
    · rintro σ H1 ⟨v1, v2, rfl, s1⟩
      exact k H1 s1
def spCheckStandings : Sp := fun vs H Q _ => ∃ (a b : Addr) (tags : List Str) (F : Form), vs = [.ref a, .ref b] ∧ WordAt H a tags ∧ FormAt H b F ∧ FormOk tags F ∧ tags.length ≤ 100 ∧ ∀ H', Same H H' → Q .non H'
theorem ok_check_standings (X : TX K mg) : FnOk P w K mg base CX0 4 X.d_check_standings.a X.d_check_standings.fd ["tags", "standings"] spCheckStandings := by
  have nd := sc_check_standings.nd
  refine X.d_check_standings.F.ok sc_check_standings (fun vs H Q E h => ?_) (fun cdv A outer s H vs Q E hr h => ?_)
  · obtain ⟨a, b, tags, F, rfl, _⟩ := h
    rfl
  · obtain ⟨a, b, tags, F, rfl, ha, hF, ok, htl, k⟩ := h
    refine ⟨_, (pss_cons (ps_if (pt_not (pt_val (pe_call (ok_is_list X) (hr.mono (by decide)) rfl X.d_is_list.mg X.d_is_list.F.kp X.d_is_list.b .nil pass0 (pa_cons (pv 1) (pa_cons pe_int (pa_cons (pe_gc rfl X.c_MOST_STANDINGS) pa_nil)))))) (pss_one ps_never) pss_nil) (pss_one (ps_for PassesOwn.never rfl (QB.pi_enumK K (by rfl) X.n_enumerate (pa_cons (pv 1) pa_nil)) (pg_tup (by rfl) (pgs_cons (pg_name (i := 2) nd rfl (Or.inl rfl)) (pgs_cons (pg_name (i := 3) nd rfl (Or.inl rfl)) (pgs_nil)))) (pss_one (ps_if (pt_not (pt_val (pe_call (ok_is_standing X) (hr.mono (by decide)) rfl X.d_is_standing.mg X.d_is_standing.F.kp X.d_is_standing.b .nil pass0 (pa_cons (pv 0) (pa_cons (pe_callB (QB.call_lenK K) (by rfl) X.n_len PySem.boot_len (pa_cons (pv 1) pa_nil)) (pa_cons (pv 3) pa_nil)))))) (pss_one ps_never) pss_nil))))), ?_⟩
    try dsimp only [Cx.nox, Cx.wish, cxOf]
    have o1 := ok.pos
    have o2 := ok.len
    obtain ⟨ts, hts, hpr⟩ := hF
    have htsl := Paired.length hpr
    refine ⟨_, rfl, b, _, _, _, rfl, hts, _, rfl, ?_⟩
    rw [decide_eq_true (by rw [List.length_map]; omega)]
    refine iteF ?_
    refine ⟨_, rfl, _, _, rfl, SqL.of hts, ?_⟩
    refine for_it (walk_enum (K := K) (a := b) (xs := ts.map V.ref)) (fun i σ H' => ∃ v3 v4, σ = [some (.ref a), some (.ref b), v3, v4] ∧ Same H H') ⟨none, none, rfl, Same.refl H⟩ (fun i σ H' _ ⟨_, _, _, s1⟩ => SqL.of (s1 _ _ hts)) ?_ ?_
    · rintro i v σ H1 H2 hi ⟨v1, v2, rfl, s1⟩ ⟨tp, x1, x2, rfl, ntp, rfl, e1, e2⟩
      cases e1
      rw [List.length_map] at hi
      have hti : ts[i]? = some ts[i] := List.getElem?_eq_getElem hi
      have e2 : (ts.map V.ref)[i]? = some x2 := e2
      rw [List.getElem?_map, hti] at e2
      cases e2
      obtain ⟨s, hs, p1, p2, f1, f2, f3⟩ := paired_get' hpr hti
      have s2 := Same.new s1 (o := .tup [.int (i : Int), .ref ts[i]]) ntp
      refine ⟨tp, _, rfl, SqT.of upd_same, rfl, _, _, rfl, _, _, rfl, rfl, ?_⟩
      refine ⟨_, rfl, _, rfl, _, _, rfl, .inl (SqL.of (s2 _ _ hts)), _, rfl, ?_⟩
      refine ⟨a, ts[i], p1, p2, tags, F.length, s, by rw [List.length_map, htsl]; rfl, Same.word s2 ha, s2 _ _ f1, Same.word s2 f2, Same.ways s2 f3, ok.all s (mem_of hs), htl, fun H3 s3 => ⟨_, rfl, ?_⟩⟩
      exact iteF ⟨_, _, rfl, s2.trans s3⟩
    · rintro σ H1 ⟨v1, v2, rfl, s1⟩
      exact k H1 s1
end
end Law
end

section
set_option Elab.async false
set_option linter.all false
set_option maxRecDepth 100000
set_option maxHeartbeats 4000000
namespace Law
open PySem PySem.Spec PyProof.Rows L2 LamX QB QM
section
variable {P : Program} {w : World} {K : PySem.W.Frag} {mg : Str → Option Value} {base : Heap}

theorem wordIns {H : Hp} {x p C dx : Addr} {fs : List (Str × V)} {o : HO} {t : Word} (h : WordAt H p t) (e : H x = some (.ins C dx fs)) : WordAt (upd H x o) p t := Eq.trans (upd_ne (ne_of h e (fun z => nomatch z))) h
theorem formIns {H : Hp} {x p C dx : Addr} {fs : List (Str × V)} {o : HO} {F : Form} (h : FormAt H p F) (e : H x = some (.ins C dx fs)) : FormAt (upd H x o) p F := by
  obtain ⟨ts, h1, h2⟩ := h
  refine ⟨ts, Eq.trans (upd_ne (ne_of h1 e (fun z => nomatch z))) h1, L2.Paired.mapP h2 fun t s q => ?_⟩
  obtain ⟨a, b, q1, q2, q3⟩ := q
  exact ⟨a, b, Eq.trans (upd_ne (ne_of q1 e (fun z => nomatch z))) q1, Eq.trans (upd_ne (ne_of q2 e (fun z => nomatch z))) q2, Eq.trans (upd_ne (ne_of q3 e (fun z => nomatch z))) q3⟩
theorem newIns {H0 H : Hp} {x p C dx : Addr} {fs : List (Str × V)} {o : HO} {L : List Tri} {F : Form} (h : NewF H0 H p L F) (e : H x = some (.ins C dx fs)) : NewF H0 (upd H x o) p L F := by
  refine ⟨Eq.trans (upd_ne (ne_of h.lst e (fun z => nomatch z))) h.lst, ⟨L2.Paired.mapP h.all.at_ fun t s q => ?_, h.all.new, h.all.nd⟩, h.new, h.out⟩
  obtain ⟨q1, q2, q3⟩ := q
  exact ⟨Eq.trans (upd_ne (ne_of q1 e (fun z => nomatch z))) q1, Eq.trans (upd_ne (ne_of q2 e (fun z => nomatch z))) q2, Eq.trans (upd_ne (ne_of q3 e (fun z => nomatch z))) q3⟩

/-- an eater's fields -/
def eatFs (a b : Addr) : List (Str × V) := [("_tags", .ref a), ("_standings", .ref b)]
/-- an eater -/
def EatAt (C : Addr) (H : Hp) (e : Addr) (tags : Word) (G : Form) : Prop := ∃ dx a b, H e = some (.ins C dx (eatFs a b)) ∧ WordAt H a tags ∧ FormAt H b G
theorem EatAt.ext {T : List (Addr × Str)} {C e : Addr} {H H' : Hp} {tags : Word} {G : Form} (h : EatAt C H e tags G) (x : QB.Ext T H H') : EatAt C H' e tags G := by
  obtain ⟨dx, a, b, h1, h2, h3⟩ := h
  exact ⟨dx, a, b, x.get h1, x.word h2, x.form h3⟩
theorem EatAt.same {C e : Addr} {H H' : Hp} {tags : Word} {G : Form} (h : EatAt C H e tags G) (x : Same H H') : EatAt C H' e tags G := h.ext (Ext.of (T := []) x)
/-- a new eater: what it stands on is new -/
structure EatN (C : Addr) (H0 H : Hp) (e dx a b : Addr) (L : List Tri) (tags : Word) (G : Form) : Prop where
  ins : H e = some (.ins C dx (eatFs a b))
  tags : WordAt H a tags
  form : NewF H0 H b L G
  fe : Fresh H0 e
  fa : Fresh H0 a
theorem EatN.at_ {C e dx a b : Addr} {H0 H : Hp} {L : List Tri} {tags : Word} {G : Form} (h : EatN C H0 H e dx a b L tags G) : EatAt C H e tags G := ⟨dx, a, b, h.ins, h.tags, h.form.form⟩
theorem EatN.ext {T : List (Addr × Str)} {C e dx a b : Addr} {H0 H H' : Hp} {L : List Tri} {tags : Word} {G : Form} (h : EatN C H0 H e dx a b L tags G) (x : QB.Ext T H H') : EatN C H0 H' e dx a b L tags G := ⟨x.get h.ins, x.word h.tags, h.form.ext x, h.fe, h.fa⟩

def spInit (T : List (Addr × Str)) (C : Addr) : Sp := fun vs H Q _ => ∃ (x dx a b : Addr) (tags : Word) (F : Form) (H0 : Hp), vs = [.ref x, .ref a, .ref b] ∧ H x = some (.ins C dx []) ∧ WordAt H a tags ∧ FormAt H b F ∧ TagsOk tags ∧ FormOk tags F ∧ Tabs T H ∧ QB.Ext T H0 H ∧ Fresh H0 x ∧
  ∀ (a' b' : Addr) (L : List Tri) (H' : Hp), QB.Ext T H0 H' → Tabs T H' → EatN C H0 H' x dx a' b' L tags (least tags F) → Q .non H'
theorem ok_Eater___init__ (X : TX K mg) (TB : LamX.TabB base mg X.lam_c X.lam_P) : FnOk P w K mg base CX0 5 X.d_Eater___init__.a X.d_Eater___init__.fd ["self", "tags", "standings"] (spInit (Tof X) X.c_Eater) := by
  have nd := sc_Eater___init__.nd
  refine X.d_Eater___init__.F.ok sc_Eater___init__ (fun vs H Q E h => ?_) (fun cdv A outer s H vs Q E hr h => ?_)
  · obtain ⟨x, dx, a, b, tags, F, H0, rfl, _⟩ := h
    rfl
  · obtain ⟨x, dx, a, b, tags, F, H0, rfl, hx, ha, hb, to, fo, tb, e0, fx, k⟩ := h
    refine ⟨_, (pss_cons (ps_expr (pe_call (ok_check_tags X) (hr.mono (by decide)) rfl X.d_check_tags.mg X.d_check_tags.F.kp X.d_check_tags.b .nil pass0 (pa_cons (pv 1) pa_nil))) (pss_cons (ps_expr (pe_call (ok_check_standings X) (hr.mono (by decide)) rfl X.d_check_standings.mg X.d_check_standings.F.kp X.d_check_standings.b .nil pass0 (pa_cons (pv 1) (pa_cons (pv 2) pa_nil)))) (pss_cons (ps_fld (pv 0) (pe_callTy (QB.call_listK K) (by rfl) X.n_list QB.bo_list (pa_cons (pv 1) pa_nil)) rfl) (pss_one (ps_fld (pv 0) (pe_call (ok_least_form X TB) (hr.mono (by decide)) rfl X.d_least_form.mg X.d_least_form.F.kp X.d_least_form.b .nil pass0 (pa_cons (pv 1) (pa_cons (pv 2) pa_nil))) rfl))))), ?_⟩
    try dsimp only [Cx.nox, Cx.wish, cxOf]
    have htl := to.len
    refine ⟨_, rfl, a, tags, rfl, ha, to, fun H1 s1 => ?_⟩
    refine ⟨_, rfl, _, rfl, a, b, tags, F, rfl, Same.word s1 ha, Same.form s1 hb, fo, by omega, fun H2 s2 => ?_⟩
    have s12 := s1.trans s2
    refine ⟨_, rfl, ?_⟩
    dsimp only [tNil]
    refine ⟨_, _, rfl, .inl (SqL.of (Same.word s12 ha)), fun l hl => ?_⟩
    have sA : Same H (upd H2 l (.lst (vS tags))) := Same.new s12 hl
    have hxA := sA _ _ hx
    refine ⟨_, rfl, x, _, _, _, rfl, hxA, X.cl_Eater, X.na_Eater__tags, by decide, ?_⟩
    have haA : WordAt (upd H2 l (.lst (vS tags))) l tags := upd_same
    generalize upd H2 l (.lst (vS tags)) = HA at sA hxA haA ⊢
    have eB := (e0.trans (.of sA)).mut (o := .ins X.c_Eater dx [("_tags", .ref l)]) fx hxA
    have tB := tabs_mut (o := .ins X.c_Eater dx [("_tags", .ref l)]) (tb.ext sA) hxA True.intro
    refine ⟨_, rfl, _, rfl, a, b, tags, F, rfl, wordIns (Same.word sA ha) hxA, formIns (Same.form sA hb) hxA, fo.good, fo.words to, by omega, tB, fun p L H3 e3 t3 n3 => ?_⟩
    have hx3 := e3.get (p := x) upd_same
    refine ⟨_, rfl, x, _, _, _, rfl, hx3, X.cl_Eater, X.na_Eater__standings, by show (1 : Nat) < 1000; omega, ?_⟩
    exact k l p L _ ((eB.trans e3).mut fx hx3) (tabs_mut t3 hx3 True.intro) ⟨upd_same, wordIns (e3.word (wordIns haA hxA)) hx3, newIns (n3.old eB) hx3, fx, e0.fresh (.of (s12.free hl))⟩

def spLenE (C : Addr) : Sp := fun vs H Q _ => ∃ (e : Addr) (tags : Word) (G : Form), vs = [.ref e] ∧ EatAt C H e tags G ∧ Q (.int (G.length : Int)) H
theorem ok_Eater___len__ (X : TX K mg) : FnOk P w K mg base CX0 1 X.d_Eater___len__.a X.d_Eater___len__.fd ["self"] (spLenE X.c_Eater) := by
  have nd := sc_Eater___len__.nd
  refine X.d_Eater___len__.F.ok sc_Eater___len__ (fun vs H Q E h => ?_) (fun cdv A outer s H vs Q E hr h => ?_)
  · obtain ⟨e, tags, G, rfl, _⟩ := h
    rfl
  · obtain ⟨e, tags, G, rfl, ⟨dx, a, b, he, ha, hb⟩, k⟩ := h
    refine ⟨_, (pss_one (ps_ret (pe_callB (QB.call_lenK K) (by rfl) X.n_len PySem.boot_len (pa_cons (QB.pe_fldK K (pv 0) rfl) pa_nil)))), ?_⟩
    try dsimp only [Cx.nox, Cx.wish, cxOf]
    obtain ⟨vs, h1, h2⟩ := FormAt.lst hb
    refine ⟨_, rfl, e, _, _, _, _, rfl, he, X.cl_Eater, X.na_Eater__standings, rfl, ?_⟩
    dsimp only [tNil]
    refine ⟨_, _, rfl, .inl (SqL.of h1), ?_⟩
    rw [h2]
    exact k
def spTagsE (C : Addr) : Sp := fun vs H Q _ => ∃ (e : Addr) (tags : Word) (G : Form), vs = [.ref e] ∧ EatAt C H e tags G ∧ ∀ p, H p = none → Q (.ref p) (upd H p (.lst (vS tags)))
theorem ok_Eater_tags (X : TX K mg) : FnOk P w K mg base CX0 1 X.d_Eater_tags.a X.d_Eater_tags.fd ["self"] (spTagsE X.c_Eater) := by
  have nd := sc_Eater_tags.nd
  refine X.d_Eater_tags.F.ok sc_Eater_tags (fun vs H Q E h => ?_) (fun cdv A outer s H vs Q E hr h => ?_)
  · obtain ⟨e, tags, G, rfl, _⟩ := h
    rfl
  · obtain ⟨e, tags, G, rfl, ⟨dx, a, b, he, ha, hb⟩, k⟩ := h
    refine ⟨_, (pss_one (ps_ret (pe_callTy (QB.call_listK K) (by rfl) X.n_list QB.bo_list (pa_cons (QB.pe_fldK K (pv 0) rfl) pa_nil)))), ?_⟩
    try dsimp only [Cx.nox, Cx.wish, cxOf]
    refine ⟨_, rfl, e, _, _, _, _, rfl, he, X.cl_Eater, X.na_Eater__tags, rfl, ?_⟩
    dsimp only [tNil]
    exact ⟨_, _, rfl, .inl (SqL.of ha), k⟩
def spStandingsE (C : Addr) : Sp := fun vs H Q _ => ∃ (e : Addr) (tags : Word) (G : Form), vs = [.ref e] ∧ EatAt C H e tags G ∧ G.length ≤ 10000 ∧ ∀ (p : Addr) (L : List Tri) (H' : Hp), Same H H' → NewF H H' p L G → Q (.ref p) H'
theorem ok_Eater_standings (X : TX K mg) : FnOk P w K mg base CX0 2 X.d_Eater_standings.a X.d_Eater_standings.fd ["self"] (spStandingsE X.c_Eater) := by
  have nd := sc_Eater_standings.nd
  refine X.d_Eater_standings.F.ok sc_Eater_standings (fun vs H Q E h => ?_) (fun cdv A outer s H vs Q E hr h => ?_)
  · obtain ⟨e, tags, G, rfl, _⟩ := h
    rfl
  · obtain ⟨e, tags, G, rfl, ⟨dx, a, b, he, ha, hb⟩, hz, k⟩ := h
    refine ⟨_, (pss_one (ps_ret (pe_call (ok_copied X) (hr.mono (by decide)) rfl X.d_copied.mg X.d_copied.F.kp X.d_copied.b .nil pass0 (pa_cons (QB.pe_fldK K (pv 0) rfl) pa_nil)))), ?_⟩
    try dsimp only [Cx.nox, Cx.wish, cxOf]
    refine ⟨_, rfl, e, _, _, _, _, rfl, he, X.cl_Eater, X.na_Eater__standings, rfl, ?_⟩
    dsimp only [tNil]
    exact ⟨b, G, rfl, hb, hz, k⟩
def spOnE (C : Addr) : Sp := fun vs H Q _ => ∃ (e c : Addr) (tags : Word) (G : Form) (wd : Word), vs = [.ref e, .ref c] ∧ EatAt C H e tags G ∧ WordAt H c wd ∧ Good tags G ∧ (∀ t ∈ wd, t ∈ tags) ∧ wd.length ≤ 200 ∧ (∀ s ∈ G, s.1.length ≤ 10000) ∧
  ∀ (p : Addr) (H' : Hp), Same H H' → H p = none → H' p = some (.lst (vS (make tags G wd))) → Q (.ref p) H'
theorem ok_Eater_on (X : TX K mg) : FnOk P w K mg base CX0 4 X.d_Eater_on.a X.d_Eater_on.fd ["self", "subject"] (spOnE X.c_Eater) := by
  have nd := sc_Eater_on.nd
  refine X.d_Eater_on.F.ok sc_Eater_on (fun vs H Q E h => ?_) (fun cdv A outer s H vs Q E hr h => ?_)
  · obtain ⟨e, c, tags, G, wd, rfl, _⟩ := h
    rfl
  · obtain ⟨e, c, tags, G, wd, rfl, ⟨dx, a, b, he, ha, hb⟩, hw, g, hin, hz, hz2, k⟩ := h
    refine ⟨_, (pss_cons (ps_expr (pe_call (ok_check_word X) (hr.mono (by decide)) rfl X.d_check_word.mg X.d_check_word.F.kp X.d_check_word.b .nil pass0 (pa_cons (QB.pe_fldK K (pv 0) rfl) (pa_cons (pv 1) (pa_cons (pe_gc rfl X.c_LONGEST_SUBJECT) pa_nil))))) (pss_one (ps_ret (pe_call (ok_made X) (hr.mono (by decide)) rfl X.d_made.mg X.d_made.F.kp X.d_made.b .nil pass0 (pa_cons (QB.pe_fldK K (pv 0) rfl) (pa_cons (QB.pe_fldK K (pv 0) rfl) (pa_cons (pv 1) pa_nil))))))), ?_⟩
    try dsimp only [Cx.nox, Cx.wish, cxOf]
    refine ⟨_, rfl, ⟨e, _, _, _, _, rfl, he, X.cl_Eater, X.na_Eater__tags, rfl, ?_⟩⟩
    refine ⟨_, rfl, ?_⟩
    refine ⟨a, c, tags, wd, 200, rfl, ha, hw, by omega, hin, fun H1 s1 => ?_⟩
    refine ⟨_, rfl, e, _, _, _, _, rfl, s1 _ _ he, X.cl_Eater, X.na_Eater__tags, rfl, ?_⟩
    refine ⟨_, rfl, e, _, _, _, _, rfl, s1 _ _ he, X.cl_Eater, X.na_Eater__standings, rfl, ?_⟩
    refine ⟨_, rfl, ?_⟩
    exact ⟨a, b, c, tags, G, wd, rfl, Same.word s1 ha, Same.form s1 hb, Same.word s1 hw, g, hin, by omega, hz2, fun p H2 s2 n2 h2 => k p H2 (s1.trans s2) (s1.free n2) h2⟩
def spEqE (K : PySem.W.Frag) (C : Addr) : Sp := fun vs H Q _ => ∃ (e : Addr) (y : V) (tags : Word) (G : Form), vs = [.ref e, y] ∧ EatAt C H e tags G ∧ OkWord tags ∧ OkForm G ∧
  ((∃ (f : Addr) (tags2 : Word) (G2 : Form), y = .ref f ∧ EatAt C H f tags2 G2 ∧ OkWord tags2 ∧ OkForm G2 ∧ Q (.bl (decide (tags = tags2) && decide (G = G2))) H) ∨
   (∃ t, TyOf K H y t ∧ PySem.W.kitOne K t (.ref C) = some false ∧ Q (.bl false) H))
theorem ok_Eater___eq__ (X : TX K mg) : FnOk P w K mg base CX0 1 X.d_Eater___eq__.a X.d_Eater___eq__.fd ["self", "other"] (spEqE K X.c_Eater) := by
  have nd := sc_Eater___eq__.nd
  refine X.d_Eater___eq__.F.ok sc_Eater___eq__ (fun vs H Q E h => ?_) (fun cdv A outer s H vs Q E hr h => ?_)
  · obtain ⟨e, y, tags, G, rfl, _⟩ := h
    rfl
  · obtain ⟨e, y, tags, G, rfl, ⟨dx, a, b, he, ha, hb⟩, ot, oG, k⟩ := h
    refine ⟨_, (pss_cons (ps_if (pt_not (pt_val (pe_callB (QB.call_isiK K) (by rfl) X.n_isinstance QB.bo_isinstance (pa_cons (pv 1) (pa_cons (pe_glob (v := .ref X.c_Eater) rfl X.m_Eater rfl) pa_nil))))) (pss_one (ps_ret pe_bl)) pss_nil) (pss_one (ps_ret (pe_and (pe_cmpR (QB.op_eqDK K hr.units) (QB.pe_fldK K (pv 0) rfl) (QB.pe_fldK K (pv 1) rfl) (nomark _)) (pe_one (pe_cmpR (QB.op_eqDK K hr.units) (QB.pe_fldK K (pv 0) rfl) (QB.pe_fldK K (pv 1) rfl) (nomark _))))))), ?_⟩
    try dsimp only [Cx.nox, Cx.wish, cxOf]
    rcases k with ⟨f, tags2, G2, rfl, ⟨dx2, a2, b2, hf, ha2, hb2⟩, ot2, oG2, q⟩ | ⟨t, ht, hk, q⟩
    · refine ⟨_, rfl, ?_⟩
      dsimp only [tNil, tCons]
      refine ⟨_, _, _, _, true, rfl, .own _, .base (X.oc_Eater.ty X.cl_Eater hf), QO.OwnC.self, true, rfl, ?_⟩
      refine iteF ?_
      refine ⟨_, rfl, e, _, _, _, _, rfl, he, X.cl_Eater, X.na_Eater__tags, rfl, ?_⟩
      refine ⟨_, rfl, f, _, _, _, _, rfl, hf, X.cl_Eater, X.na_Eater__tags, rfl, ?_⟩
      refine eq_wd ha ha2 ot ot2 ?_
      refine ⟨_, rfl, ?_⟩
      by_cases z : tags = tags2
      · rw [decide_eq_true z] at q ⊢
        refine iteT ?_
        refine ⟨_, rfl, e, _, _, _, _, rfl, he, X.cl_Eater, X.na_Eater__standings, rfl, ?_⟩
        refine ⟨_, rfl, f, _, _, _, _, rfl, hf, X.cl_Eater, X.na_Eater__standings, rfl, ?_⟩
        exact eq_form hb hb2 oG oG2 q
      · rw [decide_eq_false z] at q ⊢
        exact iteF q
    · refine ⟨_, rfl, ?_⟩
      dsimp only [tNil, tCons]
      refine ⟨_, _, _, _, false, rfl, .own _, .base ht, hk, false, rfl, ?_⟩
      exact iteT q
end
end Law
end

section
set_option Elab.async false
set_option linter.all false
set_option maxRecDepth 100000
set_option maxHeartbeats 4000000
namespace Law
open PySem PySem.Spec PyProof.Rows L2 LamX QB QM QV
section
variable {P : Program} {w : World} {K : PySem.W.Frag} {mg : Str → Option Value} {base : Heap}
theorem ok_InvalidTags___init__ (X : TX K mg) : FnOk P w K mg base CX0 1 X.d_InvalidTags___init__.a X.d_InvalidTags___init__.fd ["self", "index"] (QX.spExI K X.e_InvalidTags "index") := by
  have nd := sc_InvalidTags___init__.nd
  refine X.d_InvalidTags___init__.F.ok sc_InvalidTags___init__ (fun vs H Q E h => ?_) (fun cdv A outer s H vs Q E hr h => ?_)
  · obtain ⟨a, y, rfl, _⟩ := h
    rfl
  · obtain ⟨a, y, rfl, ha, k⟩ := h
    refine ⟨_, (pss_one (ps_ost (pv 0) (pv 1))), ?_⟩
    try dsimp only [Cx.nox, Cx.wish, cxOf]
    exact ⟨_, rfl, _, rfl, a, X.e_InvalidTags, rfl, X.xt_InvalidTags.oex, X.xt_InvalidTags.noF, .inl ⟨ha, fun dx h1 h2 => k dx h1 h2⟩⟩
theorem ok_InvalidSubject___init__ (X : TX K mg) : FnOk P w K mg base CX0 1 X.d_InvalidSubject___init__.a X.d_InvalidSubject___init__.fd ["self", "index"] (QX.spExI K X.e_InvalidSubject "index") := by
  have nd := sc_InvalidSubject___init__.nd
  refine X.d_InvalidSubject___init__.F.ok sc_InvalidSubject___init__ (fun vs H Q E h => ?_) (fun cdv A outer s H vs Q E hr h => ?_)
  · obtain ⟨a, y, rfl, _⟩ := h
    rfl
  · obtain ⟨a, y, rfl, ha, k⟩ := h
    refine ⟨_, (pss_one (ps_ost (pv 0) (pv 1))), ?_⟩
    try dsimp only [Cx.nox, Cx.wish, cxOf]
    exact ⟨_, rfl, _, rfl, a, X.e_InvalidSubject, rfl, X.xt_InvalidSubject.oex, X.xt_InvalidSubject.noF, .inl ⟨ha, fun dx h1 h2 => k dx h1 h2⟩⟩
theorem ok_InvalidEater___init__ (X : TX K mg) : FnOk P w K mg base CX0 1 X.d_InvalidEater___init__.a X.d_InvalidEater___init__.fd ["self", "index"] (QX.spExI K X.e_InvalidEater "index") := by
  have nd := sc_InvalidEater___init__.nd
  refine X.d_InvalidEater___init__.F.ok sc_InvalidEater___init__ (fun vs H Q E h => ?_) (fun cdv A outer s H vs Q E hr h => ?_)
  · obtain ⟨a, y, rfl, _⟩ := h
    rfl
  · obtain ⟨a, y, rfl, ha, k⟩ := h
    refine ⟨_, (pss_one (ps_ost (pv 0) (pv 1))), ?_⟩
    try dsimp only [Cx.nox, Cx.wish, cxOf]
    exact ⟨_, rfl, _, rfl, a, X.e_InvalidEater, rfl, X.xt_InvalidEater.oex, X.xt_InvalidEater.noF, .inl ⟨ha, fun dx h1 h2 => k dx h1 h2⟩⟩
theorem ok_InvalidTag___init__ (X : TX K mg) : FnOk P w K mg base CX0 1 X.d_InvalidTag___init__.a X.d_InvalidTag___init__.fd ["self", "tag"] (QX.spExI K X.e_InvalidTag "tag") := by
  have nd := sc_InvalidTag___init__.nd
  refine X.d_InvalidTag___init__.F.ok sc_InvalidTag___init__ (fun vs H Q E h => ?_) (fun cdv A outer s H vs Q E hr h => ?_)
  · obtain ⟨a, y, rfl, _⟩ := h
    rfl
  · obtain ⟨a, y, rfl, ha, k⟩ := h
    refine ⟨_, (pss_one (ps_ost (pv 0) (pv 1))), ?_⟩
    try dsimp only [Cx.nox, Cx.wish, cxOf]
    exact ⟨_, rfl, _, rfl, a, X.e_InvalidTag, rfl, X.xt_InvalidTag.oex, X.xt_InvalidTag.noF, .inl ⟨ha, fun dx h1 h2 => k dx h1 h2⟩⟩
theorem ok_InvalidPairs___init__ (X : TX K mg) : FnOk P w K mg base CX0 1 X.d_InvalidPairs___init__.a X.d_InvalidPairs___init__.fd ["self", "index"] (QX.spExI K X.e_InvalidPairs "index") := by
  have nd := sc_InvalidPairs___init__.nd
  refine X.d_InvalidPairs___init__.F.ok sc_InvalidPairs___init__ (fun vs H Q E h => ?_) (fun cdv A outer s H vs Q E hr h => ?_)
  · obtain ⟨a, y, rfl, _⟩ := h
    rfl
  · obtain ⟨a, y, rfl, ha, k⟩ := h
    refine ⟨_, (pss_one (ps_ost (pv 0) (pv 1))), ?_⟩
    try dsimp only [Cx.nox, Cx.wish, cxOf]
    exact ⟨_, rfl, _, rfl, a, X.e_InvalidPairs, rfl, X.xt_InvalidPairs.oex, X.xt_InvalidPairs.noF, .inl ⟨ha, fun dx h1 h2 => k dx h1 h2⟩⟩
theorem ok_InvalidNumber___init__ (X : TX K mg) : FnOk P w K mg base CX0 1 X.d_InvalidNumber___init__.a X.d_InvalidNumber___init__.fd ["self", "number"] (QX.spExI K X.e_InvalidNumber "number") := by
  have nd := sc_InvalidNumber___init__.nd
  refine X.d_InvalidNumber___init__.F.ok sc_InvalidNumber___init__ (fun vs H Q E h => ?_) (fun cdv A outer s H vs Q E hr h => ?_)
  · obtain ⟨a, y, rfl, _⟩ := h
    rfl
  · obtain ⟨a, y, rfl, ha, k⟩ := h
    refine ⟨_, (pss_one (ps_ost (pv 0) (pv 1))), ?_⟩
    try dsimp only [Cx.nox, Cx.wish, cxOf]
    exact ⟨_, rfl, _, rfl, a, X.e_InvalidNumber, rfl, X.xt_InvalidNumber.oex, X.xt_InvalidNumber.noF, .inl ⟨ha, fun dx h1 h2 => k dx h1 h2⟩⟩
theorem ok_TooMany___init__ (X : TX K mg) : FnOk P w K mg base CX0 1 X.d_TooMany___init__.a X.d_TooMany___init__.fd ["self", "limit"] (QX.spExI K X.e_TooMany "limit") := by
  have nd := sc_TooMany___init__.nd
  refine X.d_TooMany___init__.F.ok sc_TooMany___init__ (fun vs H Q E h => ?_) (fun cdv A outer s H vs Q E hr h => ?_)
  · obtain ⟨a, y, rfl, _⟩ := h
    rfl
  · obtain ⟨a, y, rfl, ha, k⟩ := h
    refine ⟨_, (pss_one (ps_ost (pv 0) (pv 1))), ?_⟩
    try dsimp only [Cx.nox, Cx.wish, cxOf]
    exact ⟨_, rfl, _, rfl, a, X.e_TooMany, rfl, X.xt_TooMany.oex, X.xt_TooMany.noF, .inl ⟨ha, fun dx h1 h2 => k dx h1 h2⟩⟩
end
/-! how heavy a list is -/
theorem all_len : ∀ ds : List PyData, ds.length ≤ PyData.weightAll ds
  | [] => Nat.zero_le _
  | d :: ds => by
    rw [List.length_cons, PyData.weightAll]
    have := all_len ds
    omega
theorem all_mem : ∀ {ds : List PyData} {d : PyData}, d ∈ ds → d.weight + 1 ≤ PyData.weightAll ds
  | e :: ds, d, h => by
    rw [PyData.weightAll]
    rcases List.mem_cons.mp h with rfl | h
    · omega
    · have := all_mem h
      omega
theorem w_list (ds : List PyData) : (PyData.list ds).weight = PyData.weightAll ds := by rw [PyData.weight]
theorem w_tuple (ds : List PyData) : (PyData.tuple ds).weight = PyData.weightAll ds := by rw [PyData.weight]
theorem w_str (t : Str) : (PyData.str t).weight = t.length := by
  rw [PyData.weight]
  rfl
/-! what the checks tell of data -/
def nameB (t : Str) : Bool := decide (1 ≤ t.length) && (decide (t.length ≤ 8) && t.cps.toList.all fun c => decide (c ∈ letters.cps.toList))
def nameD : PyData → Bool
  | .str t => nameB t
  | _ => false
def tagD (tags : List Str) : PyData → Bool
  | .str t => decide (t ∈ tags)
  | _ => false
def numD (lo hi : Int) : PyData → Bool
  | .int i => decide (lo ≤ i ∧ i ≤ hi)
  | _ => false
def listD (lo hi : Int) : PyData → Bool
  | .list ds => decide (lo ≤ (ds.length : Int) ∧ (ds.length : Int) ≤ hi)
  | _ => false
def subjD (tags : List Str) : PyData → Bool
  | .list ds => ds.all (tagD tags)
  | _ => false
def noneD : PyData → Bool
  | .none => true
  | _ => false
def wayD (many : Int) (d : PyData) : Bool := noneD d || numD 0 (many - 1) d
def waysD (many : Int) : PyData → Bool
  | .list ds => ds.all (wayD many)
  | _ => false
def stdD (tags : List Str) (many : Int) : PyData → Bool
  | .tuple [a, b] => listD 0 8 a && (subjD tags a && (listD (tags.length : Int) (tags.length : Int) b && waysD many b))
  | _ => false
theorem nameB_ok {t : Str} (h : NameOk t) : nameB t = true := by
  unfold nameB
  rw [decide_eq_true h.pos, decide_eq_true h.len, List.all_eq_true.mpr fun c hc => decide_eq_true (h.all c hc)]
  rfl
theorem nameB_to {t : Str} (h : nameB t = true) : NameOk t := by
  unfold nameB at h
  rw [Bool.and_eq_true, Bool.and_eq_true, List.all_eq_true] at h
  obtain ⟨h1, h2, h3⟩ := h
  exact ⟨of_decide_eq_true h1, of_decide_eq_true h2, fun c hc => of_decide_eq_true (h3 c hc)⟩
/-- the first of n places that is so -/
def firstBad (p : Nat → Bool) (n : Nat) : Option Nat := (List.range n).find? p
theorem first_at {p : Nat → Bool} {n i : Nat} (hi : i < n) (hp : p i = true) (hno : ∀ j < i, p j = false) : firstBad p n = some i := by
  unfold firstBad
  rw [List.find?_range_eq_some]
  exact ⟨hp, List.mem_range.mpr hi, fun j hj => by rw [hno j hj]; rfl⟩
theorem first_none {p : Nat → Bool} {n : Nat} (h : ∀ i < n, p i = false) : firstBad p n = none := by
  unfold firstBad
  rw [List.find?_eq_none]
  intro i hi
  rw [h i (List.mem_range.mp hi)]
  exact Bool.false_ne_true
theorem none_first {p : Nat → Bool} {n : Nat} (h : firstBad p n = none) : ∀ i < n, p i = false := by
  unfold firstBad at h
  rw [List.find?_eq_none] at h
  intro i hi
  have := h i (List.mem_range.mpr hi)
  cases q : p i with
  | false => rfl
  | true => exact absurd q this
def sameS : PyData → PyData → Bool
  | .str a, .str b => a == b
  | _, _ => false
def badTag (ds : List PyData) (i : Nat) : Bool := match ds[i]? with
  | some d => !nameD d || (ds.take i).any fun e => sameS e d
  | none => false
def idx (o : Option Nat) : Option V := o.map fun i => .int (i : Int)
def tagsDue : PyData → Option V
  | .list ds => if 1 ≤ ds.length ∧ ds.length ≤ 6 then idx (firstBad (badTag ds) ds.length) else some .non
  | _ => some .non
def badStd (tags : List Str) (ds : List PyData) (i : Nat) : Bool := match ds[i]? with
  | some d => !stdD tags (ds.length : Int) d
  | none => false
def stdsDue (tags : List Str) : PyData → Option V
  | .list ds => if 1 ≤ ds.length ∧ ds.length ≤ 30 then idx (firstBad (badStd tags ds) ds.length) else some .non
  | _ => some .non
/-- an error of the class at C with one field -/
def Bad (C : Addr) (f : Str) (iv : V) (H : Hp) (E : XK) : Prop := ∀ dd H', Same H H' → H' dd = some (.xd [(f, iv)]) → H dd = none → E (.ref C) (some dd) H'
theorem Bad.same {C : Addr} {f : Str} {iv : V} {H H' : Hp} {E : XK} (h : Bad C f iv H E) (s : Same H H') : Bad C f iv H' E := fun dd H2 s2 e n => h dd H2 (s.trans s2) e (s.free n)
theorem Bad.mk {K : PySem.W.Frag} {C : Addr} {f : Str} {iv : V} {H : Hp} {E : XK} (h : Bad C f iv H E) : ([iv] : List V).length ≤ 1000 ∧ ∀ a, H a = none → QX.spExI K C f (.ref a :: ([iv] ++ [])) (upd H a (exo a C none))
      (fun v H2 => v = .non ∧ ∃ (d : Addr) (fs : List (Str × V)), H2 a = some (exo a C (some d)) ∧ H2 d = some (exd d fs) ∧ H d = none ∧ E (.ref C) (some d) (upd (del H2 a) d (.xd fs))) (fun _ _ _ => False) :=
  QX.mkO_of fun d hd => h d _ (same_new hd) upd_same hd
theorem names_flat : ∀ {ds : List PyData} {xs : List V} {H : Hp}, DvAll H xs ds → (∀ d ∈ ds, nameD d = true) → xs.all flatV = true
  | _, _, _, .nil, _ => rfl
  | _, _, _, .cons (d := d) h1 h2, h => by
    rw [List.all_cons, names_flat h2 fun e he => h e (List.mem_cons_of_mem _ he)]
    have := h d List.mem_cons_self
    cases h1 with
    | str t => rfl
    | _ => cases this
theorem names_in : ∀ {ds : List PyData} {xs : List V} {H : Hp} (t : Str), DvAll H xs ds → (∀ d ∈ ds, nameD d = true) → inV (.str t) xs = ds.any fun e => sameS e (.str t)
  | _, _, _, _, .nil, _ => rfl
  | _, _, _, t, .cons (d := d) h1 h2, h => by
    have ih := names_in t h2 fun e he => h e (List.mem_cons_of_mem _ he)
    unfold inV at ih ⊢
    rw [List.any_cons, List.any_cons, ih]
    have := h d List.mem_cons_self
    cases h1 with
    | str u => rfl
    | _ => cases this
theorem names_before {ds : List PyData} {i : Nat} (hi : i ≤ ds.length) (h : ∀ j < i, badTag ds j = false) : ∀ d ∈ ds.take i, nameD d = true := fun d hd => by
  obtain ⟨j, hj, e⟩ := List.mem_iff_getElem.mp hd
  rw [List.length_take] at hj
  have hb := h j (by omega)
  unfold badTag at hb
  rw [List.getElem_take] at e
  rw [List.getElem?_eq_getElem (by omega), e] at hb
  dsimp only at hb
  rw [Bool.or_eq_false_iff] at hb
  simpa using hb.1
section
variable {P : Program} {w : World} {K : PySem.W.Frag} {mg : Str → Option Value} {base : Heap}
def spIsNumberD : Sp := fun vs H Q _ => ∃ (v : V) (d : PyData) (lo hi : Int), vs = [v, .int lo, .int hi] ∧ Dv H v d ∧ Q (.bl (numD lo hi d)) H
theorem oka_is_number (X : TX K mg) : FnOk P w K mg base CX0 1 X.d_is_number.a X.d_is_number.fd ["x", "least", "most"] spIsNumberD := by
  have nd := sc_is_number.nd
  refine X.d_is_number.F.ok sc_is_number (fun vs H Q E h => ?_) (fun cdv A outer s H vs Q E hr h => ?_)
  · obtain ⟨n, d, lo, hi, rfl, _⟩ := h
    rfl
  · obtain ⟨v, d, lo, hi, rfl, hd, k⟩ := h
    refine ⟨_, (pss_one (ps_ret (pe_and (pe_callB (QB.call_isiK K) (by rfl) X.n_isinstance QB.bo_isinstance (pa_cons (pv 0) (pa_cons (pe_bltn (v := .ty "int") (by rfl) X.n_int QB.bo_int rfl) pa_nil))) (pe_and (pe_not (pe_callB (QB.call_isiK K) (by rfl) X.n_isinstance QB.bo_isinstance (pa_cons (pv 0) (pa_cons (pe_bltn (v := .ty "bool") (by rfl) X.n_bool QB.bo_bool rfl) pa_nil)))) (pe_one (pe_chain op_le op_le (pv 1) (pv 0) (pv 2))))))), ?_⟩
    try dsimp only [Cx.nox, Cx.wish, cxOf]
    refine ⟨_, rfl, _, _, _, _, isID d, rfl, .ty "int", hd.ty K, kit_i d, isID d, rfl, ?_⟩
    cases hd with
    | bl b =>
      refine iteT ?_
      refine ⟨_, rfl, _, _, _, _, true, rfl, .ty "bool", (Dv.bl b).ty K, kit_b (.bool b), true, rfl, false, rfl, ?_⟩
      exact iteF k
    | int n =>
      refine iteT ?_
      refine ⟨_, rfl, _, _, _, _, false, rfl, .ty "bool", (Dv.int (H := H) n).ty K, kit_b (.int n), false, rfl, true, rfl, ?_⟩
      refine iteT ?_
      refine ⟨_, rfl, _, rfl, _, _, rfl, rfl, _, rfl, ?_⟩
      have k : Q (.bl (decide (lo ≤ n ∧ n ≤ hi))) H := k
      by_cases h1 : lo ≤ n
      · rw [if_pos (decide_eq_true h1)]
        refine ⟨_, rfl, _, _, rfl, rfl, ?_⟩
        have e : decide (lo ≤ n ∧ n ≤ hi) = decide (n ≤ hi) := by simp [h1]
        rw [e] at k
        exact k
      · rw [if_neg (by simpa using h1)]
        have e : decide (lo ≤ n ∧ n ≤ hi) = false := by simp [h1]
        rw [e] at k
        exact k
    | _ => exact iteF k
def spIsListD : Sp := fun vs H Q _ => ∃ (v : V) (d : PyData) (lo hi : Int), vs = [v, .int lo, .int hi] ∧ Dv H v d ∧ Q (.bl (listD lo hi d)) H
theorem oka_is_list (X : TX K mg) : FnOk P w K mg base CX0 1 X.d_is_list.a X.d_is_list.fd ["x", "least", "most"] spIsListD := by
  have nd := sc_is_list.nd
  refine X.d_is_list.F.ok sc_is_list (fun vs H Q E h => ?_) (fun cdv A outer s H vs Q E hr h => ?_)
  · obtain ⟨v, d, lo, hi, rfl, _⟩ := h
    rfl
  · obtain ⟨v, d, lo, hi, rfl, hd, k⟩ := h
    refine ⟨_, (pss_one (ps_ret (pe_and (pe_callB (QB.call_isiK K) (by rfl) X.n_isinstance QB.bo_isinstance (pa_cons (pv 0) (pa_cons (pe_bltn (v := .ty "list") (by rfl) X.n_list QB.bo_list rfl) pa_nil))) (pe_one (pe_chain op_le op_le (pv 1) (pe_callB (QB.call_lenK K) (by rfl) X.n_len PySem.boot_len (pa_cons (pv 0) pa_nil)) (pv 2)))))), ?_⟩
    try dsimp only [Cx.nox, Cx.wish, cxOf]
    refine ⟨_, rfl, _, _, _, _, isLD d, rfl, .ty "list", hd.ty K, kit_l d, isLD d, rfl, ?_⟩
    cases hd with
    | @lst a xs ds ha hall =>
      refine iteT ?_
      refine ⟨_, rfl, _, rfl, _, _, rfl, .inl (SqL.of ha), _, _, rfl, rfl, _, rfl, ?_⟩
      rw [← hall.len]
      have k : Q (.bl (decide (lo ≤ (ds.length : Int) ∧ (ds.length : Int) ≤ hi))) H := k
      by_cases h1 : lo ≤ (ds.length : Int)
      · rw [if_pos (decide_eq_true h1)]
        refine ⟨_, rfl, _, _, rfl, rfl, ?_⟩
        have e : decide (lo ≤ (ds.length : Int) ∧ (ds.length : Int) ≤ hi) = decide ((ds.length : Int) ≤ hi) := by simp [h1]
        rw [e] at k
        exact k
      · rw [if_neg (by simpa using h1)]
        have e : decide (lo ≤ (ds.length : Int) ∧ (ds.length : Int) ≤ hi) = false := by simp [h1]
        rw [e] at k
        exact k
    | _ => exact iteF k
def spIsNameD : Sp := fun vs H Q _ => ∃ (v : V) (d : PyData), vs = [v] ∧ Dv H v d ∧ d.weight ≤ 10000 ∧ ∀ H', Same H H' → Q (.bl (nameD d)) H'
theorem oka_is_name (X : TX K mg) : FnOk P w K mg base CX0 1 X.d_is_name.a X.d_is_name.fd ["x"] spIsNameD := by
  have nd := sc_is_name.nd
  refine X.d_is_name.F.ok sc_is_name (fun vs H Q E h => ?_) (fun cdv A outer s H vs Q E hr h => ?_)
  · obtain ⟨v, d, rfl, _⟩ := h
    rfl
  · obtain ⟨v, d, rfl, hd, hz, k⟩ := h
    refine ⟨_, (pss_cons (ps_if (PW.pt (pw_or (pt_not (pt_val (pe_callB (QB.call_isiK K) (by rfl) X.n_isinstance QB.bo_isinstance (pa_cons (pv 0) (pa_cons (pe_bltn (v := .ty "str") (by rfl) X.n_str QB.bo_str rfl) pa_nil))))) (pw_or1 (pt_not (pt_chain op_le op_le pe_int (pe_callB call_len_str (by rfl) X.n_len PySem.boot_len (pa_cons (pv 0) pa_nil)) (pe_gc rfl X.c_MOST_LETTERS)))))) (pss_one (ps_ret pe_bl)) pss_nil) (pss_one (ps_ret (pe_callB (QB.cr_allK K rfl) (by rfl) X.n_all QB.bo_all (pa_cons (pe_lc (own := [("letter", 1)]) (g := gName 1) (tt := tYes) rfl nd (pi_str (pv 0)) (blkOk_by (N := ["x", "letter"]) (sc := defScope s_is_name) (by decide +kernel)) (fun _ _ _ _ _ => pg_name (i := 1) nd rfl (Or.inl rfl)) (fun _ _ _ _ _ => pts_nil) (fun _ _ _ _ _ => (pe_cmpR op_in_sign (pv 1) (pe_gc rfl X.c_LETTERS) rfl))) pa_nil))))), ?_⟩
    try dsimp only [Cx.nox, Cx.wish, cxOf]
    refine ⟨_, rfl, _, _, _, _, isSD d, rfl, .ty "str", hd.ty K, kit_s d, isSD d, rfl, ?_⟩
    cases hd with
    | str t =>
      refine iteF ?_
      rw [w_str] at hz
      have k : ∀ H', Same H H' → Q (.bl (nameB t)) H' := k
      unfold nameB at k
      refine ⟨_, rfl, t, rfl, sz_le (by omega), _, _, rfl, rfl, _, rfl, ?_⟩
      by_cases h1 : 1 ≤ t.length
      case neg =>
        rw [if_neg (by rw [decide_eq_true_eq]; omega)]
        refine ⟨_, rfl, iteT ?_⟩
        have e := k H (Same.refl H)
        rw [decide_eq_false h1] at e
        exact e
      rw [if_pos (decide_eq_true (by omega))]
      rw [decide_eq_true h1] at k
      refine ⟨_, _, rfl, rfl, _, rfl, ?_⟩
      by_cases h8 : t.length ≤ 8
      case neg =>
        rw [decide_eq_false (by omega)]
        refine iteT ?_
        have e := k H (Same.refl H)
        rw [decide_eq_false h8] at e
        exact e
      rw [decide_eq_true (by omega : (t.length : Int) ≤ 8)]
      refine iteF ?_
      rw [decide_eq_true h8] at k
      refine ⟨_, rfl, t, rfl, fun D hD => ?_⟩
      refine lc_map walk_str hD (by have e : t.cps.size = t.length := rfl; omega) (fun _ _ => True.intro) (fun i => .bl (((t.cps.toList[i]?).map fun c => decide (c ∈ letters.cps.toList)).getD false)) ?_ ?_
      · rintro i x H1 H2 kk hi s1 ⟨rfl, c, hc, rfl⟩ hk
        refine ⟨rfl, _, rfl, c, letters, rfl, rfl, ?_⟩
        have hc2 : t.cps.toList[i]? = some c := by simpa using hc
        have e := hk _ (Same.refl H2)
        rw [hc2] at e
        exact e
      · intro H1 s1 e
        have e0 : t.cps.size = t.cps.toList.length := rfl
        rw [e0, range_map_get _ t.cps.toList (fun c => .bl (decide (c ∈ letters.cps.toList))) (fun i x hx => by rw [hx]; rfl)] at e
        refine ⟨_, t.cps.toList.map fun c => decide (c ∈ letters.cps.toList), rfl, SqL.of (by rw [e, List.map_map]; rfl), ?_⟩
        have e2 := k H1 s1
        rw [List.all_map]
        exact e2
    | _ => exact iteT (k H (Same.refl H))
def spIsTagD : Sp := fun vs H Q _ => ∃ (a : Addr) (tags : List Str) (v : V) (d : PyData), vs = [.ref a, v] ∧ WordAt H a tags ∧ Dv H v d ∧ Q (.bl (tagD tags d)) H
theorem oka_is_tag (X : TX K mg) : FnOk P w K mg base CX0 1 X.d_is_tag.a X.d_is_tag.fd ["tags", "x"] spIsTagD := by
  have nd := sc_is_tag.nd
  refine X.d_is_tag.F.ok sc_is_tag (fun vs H Q E h => ?_) (fun cdv A outer s H vs Q E hr h => ?_)
  · obtain ⟨a, tags, v, d, rfl, _⟩ := h
    rfl
  · obtain ⟨a, tags, v, d, rfl, ha, hd, k⟩ := h
    refine ⟨_, (pss_one (ps_ret (pe_and (pe_callB (QB.call_isiK K) (by rfl) X.n_isinstance QB.bo_isinstance (pa_cons (pv 1) (pa_cons (pe_bltn (v := .ty "str") (by rfl) X.n_str QB.bo_str rfl) pa_nil))) (pe_one (pe_cmpR (QB.op_inK K) (pv 1) (pv 0) rfl))))), ?_⟩
    try dsimp only [Cx.nox, Cx.wish, cxOf]
    refine ⟨_, rfl, _, _, _, _, isSD d, rfl, .ty "str", hd.ty K, kit_s d, isSD d, rfl, ?_⟩
    cases hd with
    | str t =>
      refine iteT ?_
      refine ⟨_, rfl, _, rfl, a, vS tags, rfl, .inl (SqL.of ha), rfl, vS_flat, ?_⟩
      show Q (.bl (if false = true then !inV (.str t) (vS tags) else inV (.str t) (vS tags))) H
      rw [if_neg Bool.false_ne_true, inV_word]
      exact k
    | _ => exact iteF k
def spIsSubjectD : Sp := fun vs H Q _ => ∃ (a : Addr) (tags : List Str) (v : V) (d : PyData), vs = [.ref a, v] ∧ WordAt H a tags ∧ Dv H v d ∧ d.weight ≤ 10000 ∧ ∀ H', Same H H' → Q (.bl (subjD tags d)) H'
theorem oka_is_subject (X : TX K mg) : FnOk P w K mg base CX0 2 X.d_is_subject.a X.d_is_subject.fd ["tags", "x"] spIsSubjectD := by
  have nd := sc_is_subject.nd
  refine X.d_is_subject.F.ok sc_is_subject (fun vs H Q E h => ?_) (fun cdv A outer s H vs Q E hr h => ?_)
  · obtain ⟨a, tags, v, d, rfl, _⟩ := h
    rfl
  · obtain ⟨a, tags, v, d, rfl, ha, hd, hz, k⟩ := h
    refine ⟨_, ((pss_one (ps_ret (pe_and (pe_callB (QB.call_isiK K) (by rfl) X.n_isinstance QB.bo_isinstance (pa_cons (pv 1) (pa_cons (pe_bltn (v := .ty "list") (by rfl) X.n_list QB.bo_list rfl) pa_nil))) (pe_one (pe_callB (QB.cr_allK K rfl) (by rfl) X.n_all QB.bo_all (pa_cons (pe_lc (own := [("tag", 2)]) (g := gName 2) (tt := tYes) rfl nd (QB.pi_listK K (pv 1)) (blkOk_by (N := ["tags", "x", "tag"]) (sc := defScope s_is_subject) (by decide +kernel)) (fun _ _ _ _ _ => pg_name (i := 2) nd rfl (Or.inl rfl)) (fun _ _ _ _ _ => pts_nil) (fun _ _ _ _ _ => (pe_call (oka_is_tag X) (hr.mono (by decide)) rfl X.d_is_tag.mg X.d_is_tag.F.kp X.d_is_tag.b .nil pass0 (pa_cons (pv 0) (pa_cons (pv 2) pa_nil))))) pa_nil))))))), ?_⟩
    try dsimp only [Cx.nox, Cx.wish, cxOf]
    refine ⟨_, rfl, _, _, _, _, isLD d, rfl, .ty "list", hd.ty K, kit_l d, isLD d, rfl, ?_⟩
    cases hd with
    | @lst b xs ds hb hall =>
      refine iteT ?_
      rw [w_list] at hz
      have hzl := all_len ds
      have hln := hall.len
      have k : ∀ H', Same H H' → Q (.bl (ds.all (tagD tags))) H' := k
      refine ⟨_, rfl, _, rfl, ⟨_, SqL.of hb⟩, fun D hD => ?_⟩
      refine lc_map (walk_list (K := K) (a := b) (xs := xs)) hD (by omega) (fun H1 s1 => SqL.of (s1 _ _ hb)) (fun i => .bl (((ds[i]?).map (tagD tags)).getD false)) ?_ ?_
      · rintro i x H1 H2 kk hi s1 ⟨rfl, hy⟩ hk
        obtain ⟨d, hd, hv⟩ := hall.get hy
        refine ⟨rfl, _, rfl, _, rfl, a, tags, x, d, rfl, Same.word s1 ha, hv.same s1, ?_⟩
        have e := hk _ (Same.refl H2)
        rw [hd] at e
        exact e
      · intro H1 s1 e
        rw [← hln, range_map_get _ ds (fun t => .bl (tagD tags t)) (fun i x hx => by rw [hx]; rfl)] at e
        refine ⟨_, ds.map (tagD tags), rfl, SqL.of (by rw [e, List.map_map]; rfl), ?_⟩
        have e2 := k H1 s1
        rw [List.all_map]
        exact e2
    | _ => exact iteF (k H (Same.refl H))
end
end Law
end

section
set_option Elab.async false
set_option linter.all false
set_option maxRecDepth 100000
set_option maxHeartbeats 4000000
namespace Law
open PySem PySem.Spec PyProof.Rows L2 LamX QB QM QV
theorem dv_none {H : Hp} {v : V} {d : PyData} (h : Dv H v d) : decide (v = .non) = noneD d := by
  cases h <;> rfl
section
variable {P : Program} {w : World} {K : PySem.W.Frag} {mg : Str → Option Value} {base : Heap}
def spIsStandingD : Sp := fun vs H Q _ => ∃ (a : Addr) (tags : List Str) (many : Nat) (v : V) (d : PyData), vs = [.ref a, .int (many : Int), v] ∧ WordAt H a tags ∧ Dv H v d ∧ d.weight ≤ 10000 ∧ ∀ H', Same H H' → Q (.bl (stdD tags (many : Int) d)) H'
theorem oka_is_standing (X : TX K mg) : FnOk P w K mg base CX0 3 X.d_is_standing.a X.d_is_standing.fd ["tags", "many", "x"] spIsStandingD := by
  have nd := sc_is_standing.nd
  refine X.d_is_standing.F.ok sc_is_standing (fun vs H Q E h => ?_) (fun cdv A outer s H vs Q E hr h => ?_)
  · obtain ⟨a, tags, many, v, d, rfl, _⟩ := h
    rfl
  · obtain ⟨a, tags, many, v, d, rfl, ha, hd, hz, k⟩ := h
    refine ⟨_, (pss_cons (ps_if (PW.pt (pw_or (pt_not (pt_val (pe_callB (QB.call_isiK K) (by rfl) X.n_isinstance QB.bo_isinstance (pa_cons (pv 2) (pa_cons (pe_bltn (v := .ty "tuple") (by rfl) X.n_tuple QB.bo_tuple rfl) pa_nil))))) (pw_or1 (pt_cmpR op_ne (pe_callB (QB.call_lenK K) (by rfl) X.n_len PySem.boot_len (pa_cons (pv 2) pa_nil)) pe_int (nomark _))))) (pss_one (ps_ret pe_bl)) pss_nil) (pss_cons (ps_asg (pv 2) (pg_tup (by rfl) (pgs_cons (pg_name (i := 3) nd rfl (Or.inl rfl)) (pgs_cons (pg_name (i := 4) nd rfl (Or.inl rfl)) (pgs_nil))))) (pss_cons (ps_if (PW.pt (pw_or (pt_not (pt_val (pe_call (oka_is_list X) (hr.mono (by decide)) rfl X.d_is_list.mg X.d_is_list.F.kp X.d_is_list.b .nil pass0 (pa_cons (pv 3) (pa_cons pe_int (pa_cons (pe_gc rfl X.c_LONGEST_WORD) pa_nil)))))) (pw_or1 (pt_not (pt_val (pe_call (oka_is_subject X) (hr.mono (by decide)) rfl X.d_is_subject.mg X.d_is_subject.F.kp X.d_is_subject.b .nil pass0 (pa_cons (pv 0) (pa_cons (pv 3) pa_nil)))))))) (pss_one (ps_ret pe_bl)) pss_nil) (pss_cons (ps_if (pt_not (pt_val (pe_call (oka_is_list X) (hr.mono (by decide)) rfl X.d_is_list.mg X.d_is_list.F.kp X.d_is_list.b .nil pass0 (pa_cons (pv 4) (pa_cons (pe_callB (QB.call_lenK K) (by rfl) X.n_len PySem.boot_len (pa_cons (pv 0) pa_nil)) (pa_cons (pe_callB (QB.call_lenK K) (by rfl) X.n_len PySem.boot_len (pa_cons (pv 0) pa_nil)) pa_nil)))))) (pss_one (ps_ret pe_bl)) pss_nil) (pss_one (ps_ret (pe_callB (QB.cr_allK K rfl) (by rfl) X.n_all QB.bo_all (pa_cons (pe_lc (own := [("way", 5)]) (g := gName 5) (tt := tYes) rfl nd (QB.pi_listK K (pv 4)) (blkOk_by (N := ["tags", "many", "x", "word", "ways", "way"]) (sc := defScope s_is_standing) (by decide +kernel)) (fun _ _ _ _ _ => pg_name (i := 5) nd rfl (Or.inl rfl)) (fun _ _ _ _ _ => pts_nil) (fun _ _ _ _ _ => (pe_or (pe_cmpR op_isN (pv 5) pe_non (nomark _)) (pe_one (pe_call (oka_is_number X) (hr.mono (by decide)) rfl X.d_is_number.mg X.d_is_number.F.kp X.d_is_number.b .nil pass0 (pa_cons (pv 5) (pa_cons pe_int (pa_cons (pe_op op_sub (pv 1) pe_int) pa_nil)))))))) pa_nil)))))))), ?_⟩
    try dsimp only [Cx.nox, Cx.wish, cxOf]
    refine ⟨_, rfl, _, _, _, _, isTD d, rfl, .ty "tuple", hd.ty K, kit_t d, isTD d, rfl, ?_⟩
    cases hd with
    | @tup x xs ds hx hall =>
      refine iteF ?_
      refine ⟨_, rfl, _, _, rfl, .inr (SqT.of hx), rfl, _, rfl, ?_⟩
      have hln := hall.len
      by_cases h2 : xs.length = 2
      case neg =>
        rw [decide_eq_false (fun e => h2 (by injection e with e; omega))]
        refine iteT ?_
        have e : stdD tags (many : Int) (.tuple ds) = false := by
          match ds, hln with
          | [], _ => rfl
          | [_], _ => rfl
          | [_, _], h => exact absurd h.symm h2
          | _ :: _ :: _ :: _, _ => rfl
        rw [e] at k
        exact k H (Same.refl H)
      rw [decide_eq_true (show V.int (xs.length : Int) = V.int 2 by rw [h2]; rfl)]
      refine iteF ?_
      match xs, ds, h2, hall with
      | [v1, v2], _, _, .cons (d := d1) hd1 (.cons (d := d2) hd2 .nil) =>
      refine ⟨_, rfl, x, _, rfl, SqT.of hx, rfl, _, _, rfl, _, _, rfl, rfl, ?_⟩
      rw [w_tuple, PyData.weightAll, PyData.weightAll, PyData.weightAll] at hz
      have k : ∀ H', Same H H' → Q (.bl (listD 0 8 d1 && (subjD tags d1 && (listD (tags.length : Int) (tags.length : Int) d2 && waysD (many : Int) d2)))) H' := k
      refine ⟨_, rfl, v1, d1, _, _, rfl, hd1, _, rfl, ?_⟩
      cases q1 : listD 0 8 d1 with
      | false =>
        rw [q1] at k
        exact iteT (k H (Same.refl H))
      | true =>
      rw [q1] at k
      refine iteF ?_
      refine ⟨_, rfl, _, rfl, a, tags, v1, d1, rfl, ha, hd1, by omega, fun H1 s1 => ?_⟩
      refine ⟨_, rfl, ?_⟩
      cases q2 : subjD tags d1 with
      | false =>
        rw [q2] at k
        exact iteT (k H1 s1)
      | true =>
      rw [q2] at k
      refine iteF ?_
      refine ⟨_, rfl, _, rfl, _, _, rfl, .inl (SqL.of (Same.word s1 ha)), _, rfl, _, _, rfl, .inl (SqL.of (Same.word s1 ha)), v2, d2, _, _, rfl, hd2.same s1, _, rfl, ?_⟩
      rw [vS_len]
      cases q3 : listD (tags.length : Int) (tags.length : Int) d2 with
      | false =>
        rw [q3] at k
        exact iteT (k H1 s1)
      | true =>
      rw [q3] at k
      refine iteF ?_
      cases hd2 with
      | @lst b ys es hb hall2 =>
        rw [w_list] at hz
        have hzl := all_len es
        have hln2 := hall2.len
        have k : ∀ H', Same H H' → Q (.bl (es.all (wayD (many : Int)))) H' := k
        refine ⟨_, rfl, _, rfl, ⟨_, SqL.of (s1 _ _ hb)⟩, fun D hD => ?_⟩
        refine lc_map (walk_list (K := K) (a := b) (xs := ys)) hD (by omega) (fun H2 s2 => SqL.of (s2 _ _ (s1 _ _ hb))) (fun i => .bl (((es[i]?).map (wayD (many : Int))).getD false)) ?_ ?_
        · rintro i v H2 H3 kk hi s2 ⟨rfl, hy⟩ hk
          obtain ⟨d, hd, hv⟩ := hall2.get hy
          have e := hk _ (Same.refl H3)
          rw [hd] at e
          have e : kk (.bl (noneD d || numD 0 ((many : Int) - 1) d)) H3 := e
          refine ⟨rfl, _, rfl, rfl, _, rfl, ?_⟩
          have hv3 := hv.same (s1.trans s2)
          rw [dv_none hv]
          cases q : noneD d with
          | true =>
            rw [q] at e
            exact iteT e
          | false =>
            rw [q] at e
            refine iteF ?_
            exact ⟨_, rfl, _, rfl, _, _, rfl, rfl, v, d, _, _, rfl, hv3, e⟩
        · intro H2 s2 e
          rw [← hln2, range_map_get _ es (fun t => .bl (wayD (many : Int) t)) (fun i x hx => by rw [hx]; rfl)] at e
          refine ⟨_, es.map (wayD (many : Int)), rfl, SqL.of (by rw [e, List.map_map]; rfl), ?_⟩
          have e2 := k H2 (s1.trans s2)
          rw [List.all_map]
          exact e2
      | _ => cases q3
    | _ => exact iteT (k H (Same.refl H))
def spCheckTagsD (C : Addr) : Sp := fun vs H Q E => ∃ (v : V) (d : PyData), vs = [v] ∧ Dv H v d ∧ d.weight ≤ 10000 ∧ (∀ iv, tagsDue d = some iv → Bad C "index" iv H E) ∧ (tagsDue d = none → ∀ H', Same H H' → Q .non H')
theorem okx_check_tags (X : TX K mg) : FnOk P w K mg base (L2.CX P w) 3 X.d_check_tags.a X.d_check_tags.fd ["tags"] (spCheckTagsD X.e_InvalidTags) := by
  have nd := sc_check_tags.nd
  refine X.d_check_tags.F.okX sc_check_tags (fun vs H Q E h => ?_) (fun cdv A outer s H vs Q E hr h => ?_)
  · obtain ⟨v, d, rfl, _⟩ := h
    rfl
  · obtain ⟨v, d, rfl, hd, hz, hbad, hok⟩ := h
    refine ⟨_, (pss_cons (ps_if (pt_not (pt_val (pe_call (oka_is_list X) (hr.mono (by decide)) rfl X.d_is_list.mg X.d_is_list.F.kp X.d_is_list.b .nil pass0 (pa_cons (pv 0) (pa_cons pe_int (pa_cons (pe_gc rfl X.c_MOST_TAGS) pa_nil)))))) (pss_one (ps_raise rfl (takes_of rfl rfl rfl rfl) (pmk_oex X.xt_InvalidTags.oex X.xt_InvalidTags.iC X.xt_InvalidTags.tI (ok_InvalidTags___init__ X) (hr.mono (by decide)) X.d_InvalidTags___init__.b .nil pass0 rfl X.me_InvalidTags (pa_cons pe_non pa_nil)))) pss_nil) (pss_one (ps_for (passes_of rfl) rfl (QB.pi_enumK K (by rfl) X.n_enumerate (pa_cons (pv 0) pa_nil)) (pg_tup (by rfl) (pgs_cons (pg_name (i := 1) nd rfl (Or.inl rfl)) (pgs_cons (pg_name (i := 2) nd rfl (Or.inl rfl)) (pgs_nil)))) (pss_one (ps_if (PW.pt (pw_or (pt_not (pt_val (pe_call (oka_is_name X) (hr.mono (by decide)) rfl X.d_is_name.mg X.d_is_name.F.kp X.d_is_name.b .nil pass0 (pa_cons (pv 2) pa_nil)))) (pw_or1 (pt_cmpR (QB.op_inK K) (pv 2) (pe_slice (QB.sl_listK K) (pv 0) po_none (po_some (pv 1))) rfl)))) (pss_one (ps_raise rfl (takes_of rfl rfl rfl rfl) (pmk_oex X.xt_InvalidTags.oex X.xt_InvalidTags.iC X.xt_InvalidTags.tI (ok_InvalidTags___init__ X) (hr.mono (by decide)) X.d_InvalidTags___init__.b .nil pass0 rfl X.me_InvalidTags (pa_cons (pv 1) pa_nil)))) pss_nil))))), ?_⟩
    try dsimp only [Cx.nox, Cx.wish, cxOf]
    refine ⟨_, rfl, v, d, _, _, rfl, hd, ?_⟩
    refine ⟨_, rfl, ?_⟩
    cases q : listD 1 6 d with
    | false =>
      refine iteT ?_
      refine (hbad .non ?_).mk (K := K)
      cases d with
      | list ds =>
        have q : decide ((1 : Int) ≤ (ds.length : Int) ∧ (ds.length : Int) ≤ 6) = false := q
        rw [decide_eq_false_iff_not] at q
        show (if 1 ≤ ds.length ∧ ds.length ≤ 6 then _ else _) = _
        rw [if_neg (by omega)]
      | _ => rfl
    | true =>
    refine iteF ?_
    cases hd with
    | @lst a xs ds ha hall =>
      have q : decide ((1 : Int) ≤ (ds.length : Int) ∧ (ds.length : Int) ≤ 6) = true := q
      rw [decide_eq_true_eq] at q
      have hln := hall.len
      have due : tagsDue (.list ds) = idx (firstBad (badTag ds) ds.length) := by
        show (if 1 ≤ ds.length ∧ ds.length ≤ 6 then _ else _) = _
        rw [if_pos (by omega)]
      rw [due] at hbad hok
      rw [w_list] at hz
      refine ⟨_, rfl, _, _, rfl, SqL.of ha, ?_⟩
      refine for_it (walk_enum (K := K) (a := a) (xs := xs)) (fun i σ H' => ∃ v1 v2, σ = [some (.ref a), v1, v2] ∧ Same H H' ∧ ∀ j < i, badTag ds j = false) ⟨none, none, rfl, Same.refl H, fun j hj => by omega⟩ (fun i σ H' _ ⟨_, _, _, s1, _⟩ => SqL.of (s1 _ _ ha)) ?_ ?_
      · rintro i v σ H1 H2 hi ⟨v1, v2, rfl, s1, hno⟩ ⟨tp, x1, x2, rfl, ntp, rfl, e1, e2⟩
        have e1 : some (V.int (i : Int)) = some x1 := e1
        have e2 : xs[i]? = some x2 := e2
        cases e1
        obtain ⟨d2, hd2, hv2⟩ := hall.get e2
        have hm2 := List.mem_of_getElem? hd2
        have s2 := Same.new s1 (o := .tup [.int (i : Int), x2]) ntp
        refine ⟨tp, _, rfl, SqT.of upd_same, rfl, _, _, rfl, _, _, rfl, rfl, ?_⟩
        refine ⟨_, rfl, x2, d2, rfl, hv2.same s2, by have := all_mem hm2; omega, fun H3 s3 => ⟨_, rfl, ?_⟩⟩
        have s4 := s2.trans s3
        have hi2 : i < ds.length := by omega
        have before := names_before (by omega) hno
        have hb4 := hall.take i
        have hbe : badTag ds i = (!nameD d2 || (ds.take i).any fun e => sameS e d2) := by
          unfold badTag
          rw [hd2]
        have bad : badTag ds i = true → Bad X.e_InvalidTags "index" (.int (i : Int)) H E := fun z => hbad _ (by rw [first_at hi2 z hno]; rfl)
        cases hn : nameD d2 with
        | false =>
          refine iteT ?_
          rw [hn] at hbe
          exact ⟨_, rfl, ((bad hbe).same s4).mk (K := K)⟩
        | true =>
          refine iteF ?_
          rw [hn] at hbe
          refine ⟨_, rfl, _, rfl, _, rfl, _, rfl, a, _, rfl, SqL.of (s4 _ _ ha), fun q hq => ?_⟩
          rw [cut_take]
          cases hv2 with
          | str t =>
            refine ⟨q, _, rfl, .inl (SqL.of upd_same), rfl, names_flat hb4 before, _, rfl, ?_⟩
            rw [if_neg Bool.false_ne_true, names_in t hb4 before]
            have s5 := Same.new s4 (o := .lst (xs.take i)) hq
            cases hin : (ds.take i).any fun e => sameS e (.str t) with
            | true =>
              rw [hin] at hbe
              refine iteT ?_
              exact ⟨_, rfl, ((bad hbe).same s5).mk (K := K)⟩
            | false =>
              rw [hin] at hbe
              refine iteF ⟨_, _, rfl, s5, fun j hj => ?_⟩
              rcases Nat.lt_or_ge j i with z | z
              · exact hno j z
              · have : j = i := by omega
                subst this
                exact hbe
          | _ => cases hn
      · rintro σ H1 ⟨v1, v2, rfl, s1, hno⟩
        exact hok (by rw [first_none (fun i hi => hno i (by omega))]; rfl) H1 s1
    | _ => cases q
def spCheckStdsD (C : Addr) : Sp := fun vs H Q E => ∃ (a : Addr) (tags : List Str) (v : V) (d : PyData), vs = [.ref a, v] ∧ WordAt H a tags ∧ Dv H v d ∧ d.weight ≤ 10000 ∧ (∀ iv, stdsDue tags d = some iv → Bad C "index" iv H E) ∧ (stdsDue tags d = none → ∀ H', Same H H' → Q .non H')
theorem okx_check_standings (X : TX K mg) : FnOk P w K mg base (L2.CX P w) 4 X.d_check_standings.a X.d_check_standings.fd ["tags", "standings"] (spCheckStdsD X.e_InvalidEater) := by
  have nd := sc_check_standings.nd
  refine X.d_check_standings.F.okX sc_check_standings (fun vs H Q E h => ?_) (fun cdv A outer s H vs Q E hr h => ?_)
  · obtain ⟨a, tags, v, d, rfl, _⟩ := h
    rfl
  · obtain ⟨ta, tags, v, d, rfl, hta, hd, hz, hbad, hok⟩ := h
    refine ⟨_, (pss_cons (ps_if (pt_not (pt_val (pe_call (oka_is_list X) (hr.mono (by decide)) rfl X.d_is_list.mg X.d_is_list.F.kp X.d_is_list.b .nil pass0 (pa_cons (pv 1) (pa_cons pe_int (pa_cons (pe_gc rfl X.c_MOST_STANDINGS) pa_nil)))))) (pss_one (ps_raise rfl (takes_of rfl rfl rfl rfl) (pmk_oex X.xt_InvalidEater.oex X.xt_InvalidEater.iC X.xt_InvalidEater.tI (ok_InvalidEater___init__ X) (hr.mono (by decide)) X.d_InvalidEater___init__.b .nil pass0 rfl X.me_InvalidEater (pa_cons pe_non pa_nil)))) pss_nil) (pss_one (ps_for (passes_of rfl) rfl (QB.pi_enumK K (by rfl) X.n_enumerate (pa_cons (pv 1) pa_nil)) (pg_tup (by rfl) (pgs_cons (pg_name (i := 2) nd rfl (Or.inl rfl)) (pgs_cons (pg_name (i := 3) nd rfl (Or.inl rfl)) (pgs_nil)))) (pss_one (ps_if (pt_not (pt_val (pe_call (oka_is_standing X) (hr.mono (by decide)) rfl X.d_is_standing.mg X.d_is_standing.F.kp X.d_is_standing.b .nil pass0 (pa_cons (pv 0) (pa_cons (pe_callB (QB.call_lenK K) (by rfl) X.n_len PySem.boot_len (pa_cons (pv 1) pa_nil)) (pa_cons (pv 3) pa_nil)))))) (pss_one (ps_raise rfl (takes_of rfl rfl rfl rfl) (pmk_oex X.xt_InvalidEater.oex X.xt_InvalidEater.iC X.xt_InvalidEater.tI (ok_InvalidEater___init__ X) (hr.mono (by decide)) X.d_InvalidEater___init__.b .nil pass0 rfl X.me_InvalidEater (pa_cons (pv 2) pa_nil)))) pss_nil))))), ?_⟩
    try dsimp only [Cx.nox, Cx.wish, cxOf]
    refine ⟨_, rfl, v, d, _, _, rfl, hd, ?_⟩
    refine ⟨_, rfl, ?_⟩
    cases q : listD 1 30 d with
    | false =>
      refine iteT ?_
      refine (hbad .non ?_).mk (K := K)
      cases d with
      | list ds =>
        have q : decide ((1 : Int) ≤ (ds.length : Int) ∧ (ds.length : Int) ≤ 30) = false := q
        rw [decide_eq_false_iff_not] at q
        show (if 1 ≤ ds.length ∧ ds.length ≤ 30 then _ else _) = _
        rw [if_neg (by omega)]
      | _ => rfl
    | true =>
    refine iteF ?_
    cases hd with
    | @lst a xs ds ha hall =>
      have q : decide ((1 : Int) ≤ (ds.length : Int) ∧ (ds.length : Int) ≤ 30) = true := q
      rw [decide_eq_true_eq] at q
      have hln := hall.len
      have due : stdsDue tags (.list ds) = idx (firstBad (badStd tags ds) ds.length) := by
        show (if 1 ≤ ds.length ∧ ds.length ≤ 30 then _ else _) = _
        rw [if_pos (by omega)]
      rw [due] at hbad hok
      rw [w_list] at hz
      refine ⟨_, rfl, _, _, rfl, SqL.of ha, ?_⟩
      refine for_it (walk_enum (K := K) (a := a) (xs := xs)) (fun i σ H' => ∃ v1 v2, σ = [some (.ref ta), some (.ref a), v1, v2] ∧ Same H H' ∧ ∀ j < i, badStd tags ds j = false) ⟨none, none, rfl, Same.refl H, fun j hj => by omega⟩ (fun i σ H' _ ⟨_, _, _, s1, _⟩ => SqL.of (s1 _ _ ha)) ?_ ?_
      · rintro i v σ H1 H2 hi ⟨v1, v2, rfl, s1, hno⟩ ⟨tp, x1, x2, rfl, ntp, rfl, e1, e2⟩
        have e1 : some (V.int (i : Int)) = some x1 := e1
        have e2 : xs[i]? = some x2 := e2
        cases e1
        obtain ⟨d2, hd2, hv2⟩ := hall.get e2
        have hm2 := List.mem_of_getElem? hd2
        have s2 := Same.new s1 (o := .tup [.int (i : Int), x2]) ntp
        refine ⟨tp, _, rfl, SqT.of upd_same, rfl, _, _, rfl, _, _, rfl, rfl, ?_⟩
        refine ⟨_, rfl, _, rfl, _, _, rfl, .inl (SqL.of (s2 _ _ ha)), _, rfl, ta, tags, xs.length, x2, d2, rfl, Same.word s2 hta, hv2.same s2, by have := all_mem hm2; omega, fun H3 s3 => ?_⟩
        have s4 := s2.trans s3
        have hi2 : i < ds.length := by omega
        have hbe : badStd tags ds i = !stdD tags (xs.length : Int) d2 := by
          unfold badStd
          rw [hd2, hln]
        refine ⟨_, rfl, ?_⟩
        cases hn : stdD tags (xs.length : Int) d2 with
        | false =>
          rw [hn] at hbe
          refine iteT ?_
          exact ⟨_, rfl, ((hbad (.int (i : Int)) (by rw [first_at hi2 hbe hno]; rfl)).same s4).mk (K := K)⟩
        | true =>
          rw [hn] at hbe
          refine iteF ⟨_, _, rfl, s4, fun j hj => ?_⟩
          rcases Nat.lt_or_ge j i with z | z
          · exact hno j z
          · have : j = i := by omega
            subst this
            exact hbe
      · rintro σ H1 ⟨v1, v2, rfl, s1, hno⟩
        exact hok (by rw [first_none (fun i hi => hno i (by omega))]; rfl) H1 s1
    | _ => cases q
end
end Law
end

section
set_option Elab.async false
set_option linter.all false
set_option maxRecDepth 100000
set_option maxHeartbeats 4000000
namespace Law
open PySem PySem.Spec PyProof.Rows L2 LamX QB QM QV
theorem names_strs : ∀ {ds : List PyData}, (∀ d ∈ ds, nameD d = true) → ∃ wd : List Str, ds = wd.map .str ∧ ∀ t ∈ wd, NameOk t
  | [], _ => ⟨[], rfl, fun _ h => nomatch h⟩
  | d :: ds, h => by
    obtain ⟨wd, e, hn⟩ := names_strs fun x hx => h x (List.mem_cons_of_mem _ hx)
    have hd := h d List.mem_cons_self
    cases d with
    | str t =>
      refine ⟨t :: wd, by rw [e]; rfl, fun u hu => ?_⟩
      rcases List.mem_cons.mp hu with rfl | hu
      · exact nameB_to hd
      · exact hn u hu
    | _ => cases hd
theorem strs_eq {H : Hp} : ∀ {wd : List Str} {xs : List V}, DvAll H xs (wd.map .str) → xs = vS wd
  | [], _, h => by
    cases h
    rfl
  | t :: wd, _, h => by
    cases h with
    | cons h1 h2 =>
      cases h1
      rw [strs_eq h2]
      rfl
theorem same_any (t : Str) : ∀ wd : List Str, ((wd.map PyData.str).any fun e => sameS e (.str t)) = decide (t ∈ wd)
  | [] => rfl
  | u :: wd => by
    rw [List.map_cons, List.any_cons, same_any t wd]
    show ((u == t) || decide (t ∈ wd)) = decide (t ∈ u :: wd)
    by_cases h : u = t
    · subst h
      simp
    · rw [show (u == t) = false from beq_eq_false_iff_ne.mpr h]
      simp [Ne.symm h]
theorem tags_of {H : Hp} {v : V} {d : PyData} (h : Dv H v d) (hd : tagsDue d = none) : ∃ (a : Addr) (wd : List Str), v = .ref a ∧ WordAt H a wd ∧ TagsOk wd ∧ d = .list (wd.map .str) := by
  cases h with
  | @lst a xs ds ha hall =>
    have hd : (if 1 ≤ ds.length ∧ ds.length ≤ 6 then idx (firstBad (badTag ds) ds.length) else some .non) = none := hd
    by_cases hl : 1 ≤ ds.length ∧ ds.length ≤ 6
    · rw [if_pos hl] at hd
      have hn : firstBad (badTag ds) ds.length = none := by
        cases q : firstBad (badTag ds) ds.length with
        | none => rfl
        | some i =>
          rw [q] at hd
          cases hd
      have good := none_first hn
      have names : ∀ d ∈ ds, nameD d = true := fun d hm => names_before (Nat.le_refl _) good d (by rw [List.take_length]; exact hm)
      obtain ⟨wd, e, hw⟩ := names_strs names
      subst e
      rw [List.length_map] at hl
      refine ⟨a, wd, rfl, by rw [strs_eq hall] at ha; exact ha, ⟨hl.1, hl.2, ?_, hw⟩, rfl⟩
      unfold List.Nodup
      rw [List.pairwise_iff_getElem]
      intro i j hi hj hij z
      have b := good j (by rw [List.length_map]; exact hj)
      unfold badTag at b
      rw [List.getElem?_map, List.getElem?_eq_getElem hj] at b
      dsimp only [Option.map] at b
      rw [Bool.or_eq_false_iff, ← List.map_take, same_any] at b
      have nb := of_decide_eq_false b.2
      refine nb ?_
      rw [← z, List.mem_take_iff_getElem]
      exact ⟨i, by omega, rfl⟩
    · rw [if_neg hl] at hd
      cases hd
  | _ => cases hd
theorem word_of {H : Hp} {v : V} {d : PyData} {tags : List Str} (h : Dv H v d) (h1 : listD 0 8 d = true) (h2 : subjD tags d = true) : ∃ (a : Addr) (wd : Word), v = .ref a ∧ WordAt H a wd ∧ wd.length ≤ 8 ∧ ∀ t ∈ wd, t ∈ tags := by
  cases h with
  | @lst a xs ds ha hall =>
    have h1 : decide ((0 : Int) ≤ (ds.length : Int) ∧ (ds.length : Int) ≤ 8) = true := h1
    rw [decide_eq_true_eq] at h1
    have h2 : ds.all (tagD tags) = true := h2
    rw [List.all_eq_true] at h2
    have key : ∀ {ds : List PyData}, (∀ d ∈ ds, tagD tags d = true) → ∃ wd : List Str, ds = wd.map .str ∧ ∀ t ∈ wd, t ∈ tags := by
      intro ds
      induction ds with
      | nil => exact fun _ => ⟨[], rfl, fun _ h => nomatch h⟩
      | cons d ds ih =>
        intro h
        obtain ⟨wd, e, hn⟩ := ih fun x hx => h x (List.mem_cons_of_mem _ hx)
        have hd := h d List.mem_cons_self
        cases d with
        | str t =>
          refine ⟨t :: wd, by rw [e]; rfl, fun u hu => ?_⟩
          rcases List.mem_cons.mp hu with rfl | hu
          · exact of_decide_eq_true hd
          · exact hn u hu
        | _ => cases hd
    obtain ⟨wd, e, hw⟩ := key h2
    subst e
    rw [List.length_map] at h1
    exact ⟨a, wd, rfl, by rw [strs_eq hall] at ha; exact ha, by omega, hw⟩
  | _ => cases h1
theorem ways_eq {H : Hp} {many : Nat} : ∀ {ds : List PyData} {xs : List V}, DvAll H xs ds → (∀ d ∈ ds, wayD (many : Int) d = true) → ∃ ws : Ways, xs = vWs ws ∧ ws.length = ds.length ∧ ∀ m, some m ∈ ws → m < many
  | _, _, .nil, _ => ⟨[], rfl, rfl, fun _ h => nomatch h⟩
  | _, _, .cons (d := d) h1 h2, h => by
    obtain ⟨ws, e, hl, hm⟩ := ways_eq h2 fun x hx => h x (List.mem_cons_of_mem _ hx)
    have hd := h d List.mem_cons_self
    cases h1 with
    | non =>
      refine ⟨none :: ws, by rw [e]; rfl, by rw [List.length_cons, List.length_cons, hl], fun m hx => ?_⟩
      rcases List.mem_cons.mp hx with z | hx
      · cases z
      · exact hm m hx
    | int i =>
      have hd : decide ((0 : Int) ≤ i ∧ i ≤ (many : Int) - 1) = true := hd
      rw [decide_eq_true_eq] at hd
      refine ⟨some i.toNat :: ws, ?_, by rw [List.length_cons, List.length_cons, hl], fun m hx => ?_⟩
      · rw [e]
        show V.int i :: _ = V.int ((i.toNat : Nat) : Int) :: _
        rw [Int.toNat_of_nonneg hd.1]
        rfl
      · rcases List.mem_cons.mp hx with z | hx
        · cases z
          omega
        · exact hm m hx
    | _ => cases hd
theorem std_of {H : Hp} {v : V} {d : PyData} {tags : List Str} {many : Nat} (h : Dv H v d) (hs : stdD tags (many : Int) d = true) : ∃ (t : Addr) (s : Std), v = .ref t ∧ StdAt H t s ∧ StdOk tags many s := by
  cases h with
  | @tup t xs ds ht hall =>
    cases hall with
    | nil => exact absurd hs Bool.false_ne_true
    | @cons v1 _ d1 _ h1 h2 =>
    cases h2 with
    | nil => exact absurd hs Bool.false_ne_true
    | @cons v2 _ d2 _ h2 h3 =>
    cases h3 with
    | cons _ _ => exact absurd hs Bool.false_ne_true
    | nil =>
      have hs : (listD 0 8 d1 && (subjD tags d1 && (listD (tags.length : Int) (tags.length : Int) d2 && waysD (many : Int) d2))) = true := hs
      rw [Bool.and_eq_true, Bool.and_eq_true, Bool.and_eq_true] at hs
      obtain ⟨q1, q2, q3, q4⟩ := hs
      obtain ⟨a, wd, rfl, hw, hl, hin⟩ := word_of h1 q1 q2
      cases h2 with
      | @lst b ys es hb hall2 =>
        have q3 : decide ((tags.length : Int) ≤ (es.length : Int) ∧ (es.length : Int) ≤ (tags.length : Int)) = true := q3
        rw [decide_eq_true_eq] at q3
        have q4 : es.all (wayD (many : Int)) = true := q4
        rw [List.all_eq_true] at q4
        obtain ⟨ws, e, hl2, hm⟩ := ways_eq hall2 q4
        subst e
        exact ⟨t, (wd, ws), rfl, ⟨a, b, ht, hw, hb⟩, ⟨hl, hin, by show ws.length = _; omega, hm⟩⟩
      | _ => cases q3
  | _ => cases hs
theorem form_of {H : Hp} {v : V} {d : PyData} {tags : List Str} (h : Dv H v d) (hs : stdsDue tags d = none) : ∃ (b : Addr) (F : Form), v = .ref b ∧ FormAt H b F ∧ FormOk tags F := by
  cases h with
  | @lst a xs ds ha hall =>
    have hd : (if 1 ≤ ds.length ∧ ds.length ≤ 30 then idx (firstBad (badStd tags ds) ds.length) else some .non) = none := hs
    by_cases hl : 1 ≤ ds.length ∧ ds.length ≤ 30
    · rw [if_pos hl] at hd
      have hn : firstBad (badStd tags ds) ds.length = none := by
        cases q : firstBad (badStd tags ds) ds.length with
        | none => rfl
        | some i =>
          rw [q] at hd
          cases hd
      have good : ∀ d ∈ ds, stdD tags (ds.length : Int) d = true := fun d hm => by
        obtain ⟨i, hi, e⟩ := List.mem_iff_getElem.mp hm
        have b := none_first hn i hi
        unfold badStd at b
        rw [List.getElem?_eq_getElem hi, e] at b
        simpa using b
      have key : ∀ {es : List PyData} {ys : List V}, DvAll H ys es → (∀ d ∈ es, stdD tags (ds.length : Int) d = true) → ∃ (ts : List Addr) (F : Form), ys = ts.map V.ref ∧ Paired (StdAt H) ts F ∧ F.length = es.length ∧ ∀ s ∈ F, StdOk tags ds.length s := by
        intro es
        induction es with
        | nil =>
          intro ys h _
          cases h
          exact ⟨[], [], rfl, .nil, rfl, fun _ h => nomatch h⟩
        | cons e es ih =>
          intro ys h hg
          cases h with
          | cons h1 h2 =>
            obtain ⟨ts, F, e1, e2, e3, e4⟩ := ih h2 fun x hx => hg x (List.mem_cons_of_mem _ hx)
            obtain ⟨t, s, rfl, hst, hok⟩ := std_of h1 (hg e List.mem_cons_self)
            refine ⟨t :: ts, s :: F, by rw [e1]; rfl, .cons hst e2, by rw [List.length_cons, List.length_cons, e3], fun x hx => ?_⟩
            rcases List.mem_cons.mp hx with rfl | hx
            · exact hok
            · exact e4 x hx
      obtain ⟨ts, F, e1, e2, e3, e4⟩ := key hall good
      subst e1
      exact ⟨a, F, rfl, ⟨ts, ha, e2⟩, by omega, by omega, by rw [e3]; exact e4⟩
    · rw [if_neg hl] at hd
      cases hd
  | _ => cases hs
/-- what comes of making an eater -/
inductive Due
  | made
  | tags (iv : V)
  | eater (iv : V)
def strOfD : PyData → Option Str
  | .str t => some t
  | _ => none
def tagsIn : PyData → List Str
  | .list ds => ds.filterMap strOfD
  | _ => []
def dueD (dv dy : PyData) : Due := match tagsDue dv with
  | some iv => .tags iv
  | none => match stdsDue (tagsIn dv) dy with
    | some iv => .eater iv
    | none => .made
theorem tagsIn_strs (wd : List Str) : tagsIn (.list (wd.map .str)) = wd := by
  show (wd.map PyData.str).filterMap strOfD = wd
  rw [List.filterMap_map]
  induction wd with
  | nil => rfl
  | cons t wd ih =>
    rw [List.filterMap_cons]
    show t :: _ = _
    rw [ih]
section
variable {P : Program} {w : World} {K : PySem.W.Frag} {mg : Str → Option Value} {base : Heap}
def spInitD (T : List (Addr × Str)) (C CT CE : Addr) : Sp := fun vs H Q E => ∃ (x dx : Addr) (v y : V) (dv dy : PyData) (H0 : Hp), vs = [.ref x, v, y] ∧ H x = some (.ins C dx []) ∧ Dv H v dv ∧ Dv H y dy ∧ dv.weight ≤ 10000 ∧ dy.weight ≤ 10000 ∧ Tabs T H ∧ QB.Ext T H0 H ∧ Fresh H0 x ∧
  match dueD dv dy with
  | .made => ∀ H', QB.Ext T H0 H' → Tabs T H' → Q .non H'
  | .tags iv => Bad CT "index" iv H E
  | .eater iv => Bad CE "index" iv H E
theorem okx_Eater___init__ (X : TX K mg) (TB : LamX.TabB base mg X.lam_c X.lam_P) : FnOk P w K mg base (L2.CX P w) 5 X.d_Eater___init__.a X.d_Eater___init__.fd ["self", "tags", "standings"] (spInitD (Tof X) X.c_Eater X.e_InvalidTags X.e_InvalidEater) := by
  have nd := sc_Eater___init__.nd
  refine X.d_Eater___init__.F.okX sc_Eater___init__ (fun vs H Q E h => ?_) (fun cdv A outer s H vs Q E hr h => ?_)
  · obtain ⟨x, dx, v, y, dv, dy, H0, rfl, _⟩ := h
    rfl
  · obtain ⟨x, dx, v, y, dv, dy, H0, rfl, hx, hv, hy, zv, zy, tb, e0, fx, h⟩ := h
    refine ⟨_, (pss_cons (ps_expr (pe_call (okx_check_tags X) (hr.mono (by decide)) rfl X.d_check_tags.mg X.d_check_tags.F.kp X.d_check_tags.b .nil (passes_call (takes_of rfl rfl rfl rfl) (fun _ _ _ _ h => h)) (pa_cons (pv 1) pa_nil))) (pss_cons (ps_expr (pe_call (okx_check_standings X) (hr.mono (by decide)) rfl X.d_check_standings.mg X.d_check_standings.F.kp X.d_check_standings.b .nil (passes_call (takes_of rfl rfl rfl rfl) (fun _ _ _ _ h => h)) (pa_cons (pv 1) (pa_cons (pv 2) pa_nil)))) (pss_cons (ps_fld (pv 0) (pe_callTy (QB.call_listK K) (by rfl) X.n_list QB.bo_list (pa_cons (pv 1) pa_nil)) rfl) (pss_one (ps_fld (pv 0) (pe_call (ok_least_form X TB) (hr.mono (by decide)) rfl X.d_least_form.mg X.d_least_form.F.kp X.d_least_form.b .nil pass0 (pa_cons (pv 1) (pa_cons (pv 2) pa_nil))) rfl))))), ?_⟩
    try dsimp only [Cx.nox, Cx.wish, cxOf]
    unfold dueD at h
    refine ⟨_, rfl, v, dv, rfl, hv, zv, fun iv e => ?_, fun e H1 s1 => ?_⟩
    · rw [e] at h
      exact h
    rw [e] at h
    obtain ⟨a, tags, rfl, ha, to, rfl⟩ := tags_of hv e
    have htl := to.len
    dsimp only at h
    rw [tagsIn_strs] at h
    refine ⟨_, rfl, _, rfl, a, tags, y, dy, rfl, Same.word s1 ha, hy.same s1, zy, fun iv e2 => ?_, fun e2 H2 s2 => ?_⟩
    · rw [e2] at h
      exact h.same s1
    rw [e2] at h
    have k : ∀ H', QB.Ext (Tof X) H0 H' → Tabs (Tof X) H' → Q .non H' := h
    obtain ⟨b, F, rfl, hb, fo⟩ := form_of hy e2
    have s12 := s1.trans s2
    refine ⟨_, rfl, ?_⟩
    dsimp only [tNil]
    refine ⟨_, _, rfl, .inl (SqL.of (Same.word s12 ha)), fun l hl => ?_⟩
    have sA : Same H (upd H2 l (.lst (vS tags))) := Same.new s12 hl
    have hxA := sA _ _ hx
    refine ⟨_, rfl, x, _, _, _, rfl, hxA, X.cl_Eater, X.na_Eater__tags, by decide, ?_⟩
    have haA : WordAt (upd H2 l (.lst (vS tags))) l tags := upd_same
    generalize upd H2 l (.lst (vS tags)) = HA at sA hxA haA ⊢
    have eB := (e0.trans (.of sA)).mut (o := .ins X.c_Eater dx [("_tags", .ref l)]) fx hxA
    have tB := tabs_mut (o := .ins X.c_Eater dx [("_tags", .ref l)]) (tb.ext sA) hxA True.intro
    refine ⟨_, rfl, _, rfl, a, b, tags, F, rfl, wordIns (Same.word sA ha) hxA, formIns (Same.form sA hb) hxA, fo.good, fo.words to, by omega, tB, fun p L H3 e3 t3 n3 => ?_⟩
    have hx3 := e3.get (p := x) upd_same
    refine ⟨_, rfl, x, _, _, _, rfl, hx3, X.cl_Eater, X.na_Eater__standings, by show (1 : Nat) < 1000; omega, ?_⟩
    exact k _ ((eB.trans e3).mut fx hx3) (tabs_mut t3 hx3 True.intro)
end
end Law
end

section
set_option Elab.async false
set_option linter.all false
set_option maxRecDepth 100000
/-! Qmore: rules with the written part named, for turned lists and the truth of a list. -/
namespace QN
open PySem PySem.Spec PyProof.Rows L2
section
variable {X : Cx} (K : PySem.W.Frag)
theorem pe_turn {e : Expr} {te : TE} {k : Nat} {p1 p2 p3 pos : Pos} (he : PE X e te) (h : X.K = K := by rfl) : PE X (.Subscript e (.Slice none none (some (.UnaryOp .USub (.Constant (.int 1) k p1) p2)) p3) pos) (tRevL K te) := h ▸ pe_revL he
def tTru (K : PySem.W.Frag) (ta : TE) : TT := fun σ H Q => ta σ H fun x H' => ∃ k, TruV K x H' k ∧ Q k H'
theorem pt_tru {a : Expr} {ta : TE} (ha : PE X a ta) (h : X.K = K := by rfl) (he : ∀ whole, isTrue a X.env whole = (do let v ← whole; standAt a.pos; holding [v] (truthy v)) := by intro _; rfl) : PT X a (tTru K ta) := h ▸ pt_truth ha he
theorem sl_tupK (h : X.K = K := by rfl) : SlR X (rSlT K) := h ▸ sl_tup
end
end QN
namespace QB
open PySem PySem.Spec PyProof.Rows L2
theorem enc_nat : Enc (fun n : Nat => PyData.int (n : Int)) (fun _ => True) 0 := ⟨fun x y => by
  have e := enc_int.eq (x : Int) (y : Int)
  rw [e]
  by_cases h : x = y
  · subst h
    simp
  · rw [decide_eq_false h, decide_eq_false (by omega)], fun x _ => enc_int.lay (x : Int) trivial, fun x => enc_int.dep (x : Int)⟩
def dNats (row : List Nat) : PyData := .list (row.map fun n : Nat => PyData.int (n : Int))
theorem enc_nats : Enc dNats (fun l => ∀ x ∈ l, True) 1 := enc_nat.list
theorem dp_nats {K : PySem.W.Frag} {H : Hp} {a : Addr} {row : List Nat} (h : H a = some (.lst (row.map fun (n : Nat) => V.int (n : Int)))) : Dp K H (.ref a) (dNats row) := .lst (SqL.of h) (dpAll_map _ _ (fun x => .int _) row)
end QB
end

section
set_option Elab.async false
set_option linter.all false
set_option maxRecDepth 100000
set_option maxHeartbeats 4000000
namespace Law
open PySem PySem.Spec PyProof.Rows L2 LamX QB QM QV
/-! what the checks of the makers tell of data -/
def badWord (tags : List Str) (ds : List PyData) (i : Nat) : Bool := match ds[i]? with
  | some d => !tagD tags d
  | none => false
def wordDue (tags : List Str) (most : Nat) : PyData → Option V
  | .list ds => if ds.length ≤ most then idx (firstBad (badWord tags ds) ds.length) else some .non
  | _ => some .non
def badSome (tags : List Str) (ds : List PyData) (i : Nat) : Bool := match ds[i]? with
  | some d => !tagD tags d || (ds.take i).any fun e => sameS e d
  | none => false
def someDue (tags : List Str) : PyData → Option V
  | .list ds => idx (firstBad (badSome tags ds) ds.length)
  | _ => some .non
def pairD (tags : List Str) : PyData → Bool
  | .tuple [a, b] => tagD tags a && tagD tags b
  | _ => false
def fstD : PyData → PyData
  | .tuple (a :: _) => a
  | _ => .none
def badPair (tags : List Str) (ds : List PyData) (i : Nat) : Bool := match ds[i]? with
  | some d => !pairD tags d || (ds.take i).any fun e => sameS (fstD e) (fstD d)
  | none => false
def pairsDue (tags : List Str) : PyData → Option V
  | .list ds => idx (firstBad (badPair tags ds) ds.length)
  | _ => some .non
theorem tagD_str {tags : List Str} {d : PyData} (h : tagD tags d = true) : ∃ t, d = .str t ∧ t ∈ tags := by
  cases d with
  | str t => exact ⟨t, rfl, of_decide_eq_true h⟩
  | _ => cases h
theorem tags_strs {tags : List Str} : ∀ {ds : List PyData}, (∀ d ∈ ds, tagD tags d = true) → ∃ wd : List Str, ds = wd.map .str ∧ ∀ t ∈ wd, t ∈ tags
  | [], _ => ⟨[], rfl, fun _ h => nomatch h⟩
  | d :: ds, h => by
    obtain ⟨wd, e, hn⟩ := tags_strs fun x hx => h x (List.mem_cons_of_mem _ hx)
    obtain ⟨t, rfl, ht⟩ := tagD_str (h d List.mem_cons_self)
    refine ⟨t :: wd, by rw [e]; rfl, fun u hu => ?_⟩
    rcases List.mem_cons.mp hu with rfl | hu
    · exact ht
    · exact hn u hu
theorem firstBad_none {p : Nat → Bool} {n : Nat} (h : idx (firstBad p n) = none) : ∀ i < n, p i = false := by
  cases q : firstBad p n with
  | none => exact none_first q
  | some i =>
    rw [q] at h
    cases h
theorem word_ofD {H : Hp} {v : V} {d : PyData} {tags : List Str} {most : Nat} (h : Dv H v d) (hd : wordDue tags most d = none) : ∃ (a : Addr) (wd : Word), v = .ref a ∧ WordAt H a wd ∧ wd.length ≤ most ∧ ∀ t ∈ wd, t ∈ tags := by
  cases h with
  | @lst a xs ds ha hall =>
    have hd : (if ds.length ≤ most then idx (firstBad (badWord tags ds) ds.length) else some .non) = none := hd
    by_cases hl : ds.length ≤ most
    · rw [if_pos hl] at hd
      have good := firstBad_none hd
      obtain ⟨wd, e, hw⟩ := tags_strs (tags := tags) (ds := ds) fun d hm => by
        obtain ⟨i, hi, e⟩ := List.mem_iff_getElem.mp hm
        have b := good i hi
        unfold badWord at b
        rw [List.getElem?_eq_getElem hi, e] at b
        simpa using b
      subst e
      rw [List.length_map] at hl
      exact ⟨a, wd, rfl, by rw [strs_eq hall] at ha; exact ha, hl, hw⟩
    · rw [if_neg hl] at hd
      cases hd
  | _ => cases hd
theorem some_ofD {H : Hp} {v : V} {d : PyData} {tags : List Str} (h : Dv H v d) (hd : someDue tags d = none) : ∃ (a : Addr) (wd : Word), v = .ref a ∧ WordAt H a wd ∧ ∀ t ∈ wd, t ∈ tags := by
  cases h with
  | @lst a xs ds ha hall =>
    have hd : idx (firstBad (badSome tags ds) ds.length) = none := hd
    have good := firstBad_none hd
    obtain ⟨wd, e, hw⟩ := tags_strs (tags := tags) (ds := ds) fun d hm => by
      obtain ⟨i, hi, e⟩ := List.mem_iff_getElem.mp hm
      have b := good i hi
      unfold badSome at b
      rw [List.getElem?_eq_getElem hi, e] at b
      dsimp only at b
      rw [Bool.or_eq_false_iff] at b
      simpa using b.1
    subst e
    exact ⟨a, wd, rfl, by rw [strs_eq hall] at ha; exact ha, hw⟩
  | _ => cases hd
theorem tags_flat : ∀ {ds : List PyData} {xs : List V} {H : Hp} {tags : List Str}, DvAll H xs ds → (∀ d ∈ ds, tagD tags d = true) → xs.all flatV = true ∧ ∀ t, inV (.str t) xs = ds.any fun e => sameS e (.str t)
  | _, _, _, _, .nil, _ => ⟨rfl, fun _ => rfl⟩
  | _, _, _, _, .cons (d := d) h1 h2, h => by
    obtain ⟨a, b⟩ := tags_flat h2 fun e he => h e (List.mem_cons_of_mem _ he)
    have := h d List.mem_cons_self
    cases h1 with
    | str u =>
      refine ⟨by rw [List.all_cons, a]; rfl, fun t => ?_⟩
      have ih := b t
      unfold inV at ih ⊢
      rw [List.any_cons, List.any_cons, ih]
      rfl
    | _ => cases this
theorem some_before {tags : List Str} {ds : List PyData} {i : Nat} (hi : i ≤ ds.length) (h : ∀ j < i, badSome tags ds j = false) : ∀ d ∈ ds.take i, tagD tags d = true := fun d hd => by
  obtain ⟨j, hj, e⟩ := List.mem_iff_getElem.mp hd
  rw [List.length_take] at hj
  have hb := h j (by omega)
  unfold badSome at hb
  rw [List.getElem_take] at e
  rw [List.getElem?_eq_getElem (by omega), e] at hb
  dsimp only at hb
  rw [Bool.or_eq_false_iff] at hb
  simpa using hb.1
section
variable {P : Program} {w : World} {K : PySem.W.Frag} {mg : Str → Option Value} {base : Heap}
def spCheckWordD (C : Addr) : Sp := fun vs H Q E => ∃ (a : Addr) (tags : List Str) (v : V) (d : PyData) (most : Nat), vs = [.ref a, v, .int (most : Int)] ∧ WordAt H a tags ∧ Dv H v d ∧ d.weight ≤ 10000 ∧ (∀ iv, wordDue tags most d = some iv → Bad C "index" iv H E) ∧ (wordDue tags most d = none → ∀ H', Same H H' → Q .non H')
theorem okx_check_word (X : TX K mg) : FnOk P w K mg base (L2.CX P w) 3 X.d_check_word.a X.d_check_word.fd ["tags", "word", "most"] (spCheckWordD X.e_InvalidSubject) := by
  have nd := sc_check_word.nd
  refine X.d_check_word.F.okX sc_check_word (fun vs H Q E h => ?_) (fun cdv A outer s H vs Q E hr h => ?_)
  · obtain ⟨a, tags, v, d, most, rfl, _⟩ := h
    rfl
  · obtain ⟨ta, tags, v, d, most, rfl, hta, hd, hz, hbad, hok⟩ := h
    refine ⟨_, (pss_cons (ps_if (pt_not (pt_val (pe_call (oka_is_list X) (hr.mono (by decide)) rfl X.d_is_list.mg X.d_is_list.F.kp X.d_is_list.b .nil pass0 (pa_cons (pv 1) (pa_cons pe_int (pa_cons (pv 2) pa_nil)))))) (pss_one (ps_raise rfl (takes_of rfl rfl rfl rfl) (pmk_oex X.xt_InvalidSubject.oex X.xt_InvalidSubject.iC X.xt_InvalidSubject.tI (ok_InvalidSubject___init__ X) (hr.mono (by decide)) X.d_InvalidSubject___init__.b .nil pass0 rfl X.me_InvalidSubject (pa_cons pe_non pa_nil)))) pss_nil) (pss_one (ps_for (passes_of rfl) rfl (QB.pi_enumK K (by rfl) X.n_enumerate (pa_cons (pv 1) pa_nil)) (pg_tup (by rfl) (pgs_cons (pg_name (i := 3) nd rfl (Or.inl rfl)) (pgs_cons (pg_name (i := 4) nd rfl (Or.inl rfl)) (pgs_nil)))) (pss_one (ps_if (pt_not (pt_val (pe_call (oka_is_tag X) (hr.mono (by decide)) rfl X.d_is_tag.mg X.d_is_tag.F.kp X.d_is_tag.b .nil pass0 (pa_cons (pv 0) (pa_cons (pv 4) pa_nil))))) (pss_one (ps_raise rfl (takes_of rfl rfl rfl rfl) (pmk_oex X.xt_InvalidSubject.oex X.xt_InvalidSubject.iC X.xt_InvalidSubject.tI (ok_InvalidSubject___init__ X) (hr.mono (by decide)) X.d_InvalidSubject___init__.b .nil pass0 rfl X.me_InvalidSubject (pa_cons (pv 3) pa_nil)))) pss_nil))))), ?_⟩
    try dsimp only [Cx.nox, Cx.wish, cxOf]
    refine ⟨_, rfl, _, rfl, v, d, _, _, rfl, hd, ?_⟩
    refine ⟨_, rfl, ?_⟩
    cases q : listD 0 (most : Int) d with
    | false =>
      refine iteT ?_
      refine (hbad .non ?_).mk (K := K)
      cases d with
      | list ds =>
        have q : decide ((0 : Int) ≤ (ds.length : Int) ∧ (ds.length : Int) ≤ (most : Int)) = false := q
        rw [decide_eq_false_iff_not] at q
        show (if ds.length ≤ most then _ else _) = _
        rw [if_neg (by omega)]
      | _ => rfl
    | true =>
    refine iteF ?_
    cases hd with
    | @lst a xs ds ha hall =>
      have q : decide ((0 : Int) ≤ (ds.length : Int) ∧ (ds.length : Int) ≤ (most : Int)) = true := q
      rw [decide_eq_true_eq] at q
      have hln := hall.len
      have due : wordDue tags most (.list ds) = idx (firstBad (badWord tags ds) ds.length) := by
        show (if ds.length ≤ most then _ else _) = _
        rw [if_pos (by omega)]
      rw [due] at hbad hok
      refine ⟨_, rfl, _, _, rfl, SqL.of ha, ?_⟩
      refine for_it (walk_enum (K := K) (a := a) (xs := xs)) (fun i σ H' => ∃ v1 v2, σ = [some (.ref ta), some (.ref a), some (.int (most : Int)), v1, v2] ∧ Same H H' ∧ ∀ j < i, badWord tags ds j = false) ⟨none, none, rfl, Same.refl H, fun j hj => by omega⟩ (fun i σ H' _ ⟨_, _, _, s1, _⟩ => SqL.of (s1 _ _ ha)) ?_ ?_
      · rintro i v σ H1 H2 hi ⟨v1, v2, rfl, s1, hno⟩ ⟨tp, x1, x2, rfl, ntp, rfl, e1, e2⟩
        have e1 : some (V.int (i : Int)) = some x1 := e1
        have e2 : xs[i]? = some x2 := e2
        cases e1
        obtain ⟨d2, hd2, hv2⟩ := hall.get e2
        have s2 := Same.new s1 (o := .tup [.int (i : Int), x2]) ntp
        refine ⟨tp, _, rfl, SqT.of upd_same, rfl, _, _, rfl, _, _, rfl, rfl, ?_⟩
        refine ⟨_, rfl, _, rfl, ta, tags, x2, d2, rfl, Same.word s2 hta, hv2.same s2, ?_⟩
        have hi2 : i < ds.length := by omega
        have hbe : badWord tags ds i = !tagD tags d2 := by
          unfold badWord
          rw [hd2]
        refine ⟨_, rfl, ?_⟩
        cases hn : tagD tags d2 with
        | false =>
          rw [hn] at hbe
          refine iteT ?_
          exact ⟨_, rfl, ((hbad (.int (i : Int)) (by rw [first_at hi2 hbe hno]; rfl)).same s2).mk (K := K)⟩
        | true =>
          rw [hn] at hbe
          refine iteF ⟨_, _, rfl, s2, fun j hj => ?_⟩
          rcases Nat.lt_or_ge j i with z | z
          · exact hno j z
          · have : j = i := by omega
            subst this
            exact hbe
      · rintro σ H1 ⟨v1, v2, rfl, s1, hno⟩
        exact hok (by rw [first_none (fun i hi => hno i (by omega))]; rfl) H1 s1
    | _ => cases q
def spCheckTagD (C : Addr) : Sp := fun vs H Q E => ∃ (a : Addr) (tags : List Str) (v : V) (d : PyData), vs = [.ref a, v] ∧ WordAt H a tags ∧ Dv H v d ∧ (tagD tags d = false → Bad C "tag" v H E) ∧ (tagD tags d = true → Q .non H)
theorem okx_check_tag (X : TX K mg) : FnOk P w K mg base (L2.CX P w) 3 X.d_check_tag.a X.d_check_tag.fd ["tags", "tag"] (spCheckTagD X.e_InvalidTag) := by
  have nd := sc_check_tag.nd
  refine X.d_check_tag.F.okX sc_check_tag (fun vs H Q E h => ?_) (fun cdv A outer s H vs Q E hr h => ?_)
  · obtain ⟨a, tags, v, d, rfl, _⟩ := h
    rfl
  · obtain ⟨ta, tags, v, d, rfl, hta, hd, hbad, hok⟩ := h
    refine ⟨_, (pss_one (ps_if (pt_not (pt_val (pe_call (oka_is_tag X) (hr.mono (by decide)) rfl X.d_is_tag.mg X.d_is_tag.F.kp X.d_is_tag.b .nil pass0 (pa_cons (pv 0) (pa_cons (pv 1) pa_nil))))) (pss_one (ps_raise rfl (takes_of rfl rfl rfl rfl) (pmk_oex X.xt_InvalidTag.oex X.xt_InvalidTag.iC X.xt_InvalidTag.tI (ok_InvalidTag___init__ X) (hr.mono (by decide)) X.d_InvalidTag___init__.b .nil pass0 rfl X.me_InvalidTag (pa_cons (pv 1) pa_nil)))) pss_nil)), ?_⟩
    try dsimp only [Cx.nox, Cx.wish, cxOf]
    refine ⟨_, rfl, _, rfl, ta, tags, v, d, rfl, hta, hd, ?_⟩
    refine ⟨_, rfl, ?_⟩
    cases q : tagD tags d with
    | false => exact iteT ⟨_, rfl, (hbad q).mk (K := K)⟩
    | true => exact iteF (hok q)
def spCheckNumD (C : Addr) : Sp := fun vs H Q E => ∃ (v : V) (d : PyData) (most : Int), vs = [v, .int most] ∧ Dv H v d ∧ (numD 0 most d = false → Bad C "number" v H E) ∧ (numD 0 most d = true → Q .non H)
theorem okx_check_number (X : TX K mg) : FnOk P w K mg base (L2.CX P w) 3 X.d_check_number.a X.d_check_number.fd ["number", "most"] (spCheckNumD X.e_InvalidNumber) := by
  have nd := sc_check_number.nd
  refine X.d_check_number.F.okX sc_check_number (fun vs H Q E h => ?_) (fun cdv A outer s H vs Q E hr h => ?_)
  · obtain ⟨v, d, most, rfl, _⟩ := h
    rfl
  · obtain ⟨v, d, most, rfl, hd, hbad, hok⟩ := h
    refine ⟨_, (pss_one (ps_if (pt_not (pt_val (pe_call (oka_is_number X) (hr.mono (by decide)) rfl X.d_is_number.mg X.d_is_number.F.kp X.d_is_number.b .nil pass0 (pa_cons (pv 0) (pa_cons pe_int (pa_cons (pv 1) pa_nil)))))) (pss_one (ps_raise rfl (takes_of rfl rfl rfl rfl) (pmk_oex X.xt_InvalidNumber.oex X.xt_InvalidNumber.iC X.xt_InvalidNumber.tI (ok_InvalidNumber___init__ X) (hr.mono (by decide)) X.d_InvalidNumber___init__.b .nil pass0 rfl X.me_InvalidNumber (pa_cons (pv 0) pa_nil)))) pss_nil)), ?_⟩
    try dsimp only [Cx.nox, Cx.wish, cxOf]
    refine ⟨_, rfl, _, rfl, v, d, _, _, rfl, hd, ?_⟩
    refine ⟨_, rfl, ?_⟩
    cases q : numD 0 most d with
    | false => exact iteT ⟨_, rfl, (hbad q).mk (K := K)⟩
    | true => exact iteF (hok q)
def spCheckSomeD (C : Addr) : Sp := fun vs H Q E => ∃ (a : Addr) (tags : List Str) (v : V) (d : PyData), vs = [.ref a, v] ∧ WordAt H a tags ∧ Dv H v d ∧ d.weight ≤ 10000 ∧ (∀ iv, someDue tags d = some iv → Bad C "index" iv H E) ∧ (someDue tags d = none → ∀ H', Same H H' → Q .non H')
theorem okx_check_some (X : TX K mg) : FnOk P w K mg base (L2.CX P w) 3 X.d_check_some.a X.d_check_some.fd ["tags", "some"] (spCheckSomeD X.e_InvalidSubject) := by
  have nd := sc_check_some.nd
  refine X.d_check_some.F.okX sc_check_some (fun vs H Q E h => ?_) (fun cdv A outer s H vs Q E hr h => ?_)
  · obtain ⟨a, tags, v, d, rfl, _⟩ := h
    rfl
  · obtain ⟨ta, tags, v, d, rfl, hta, hd, hz, hbad, hok⟩ := h
    refine ⟨_, (pss_cons (ps_if (pt_not (pt_val (pe_callB (QB.call_isiK K) (by rfl) X.n_isinstance QB.bo_isinstance (pa_cons (pv 1) (pa_cons (pe_bltn (v := .ty "list") (by rfl) X.n_list QB.bo_list rfl) pa_nil))))) (pss_one (ps_raise rfl (takes_of rfl rfl rfl rfl) (pmk_oex X.xt_InvalidSubject.oex X.xt_InvalidSubject.iC X.xt_InvalidSubject.tI (ok_InvalidSubject___init__ X) (hr.mono (by decide)) X.d_InvalidSubject___init__.b .nil pass0 rfl X.me_InvalidSubject (pa_cons pe_non pa_nil)))) pss_nil) (pss_one (ps_for (passes_of rfl) rfl (QB.pi_enumK K (by rfl) X.n_enumerate (pa_cons (pv 1) pa_nil)) (pg_tup (by rfl) (pgs_cons (pg_name (i := 2) nd rfl (Or.inl rfl)) (pgs_cons (pg_name (i := 3) nd rfl (Or.inl rfl)) (pgs_nil)))) (pss_one (ps_if (PW.pt (pw_or (pt_not (pt_val (pe_call (oka_is_tag X) (hr.mono (by decide)) rfl X.d_is_tag.mg X.d_is_tag.F.kp X.d_is_tag.b .nil pass0 (pa_cons (pv 0) (pa_cons (pv 3) pa_nil))))) (pw_or1 (pt_cmpR (QB.op_inK K) (pv 3) (pe_slice (QB.sl_listK K) (pv 1) po_none (po_some (pv 2))) rfl)))) (pss_one (ps_raise rfl (takes_of rfl rfl rfl rfl) (pmk_oex X.xt_InvalidSubject.oex X.xt_InvalidSubject.iC X.xt_InvalidSubject.tI (ok_InvalidSubject___init__ X) (hr.mono (by decide)) X.d_InvalidSubject___init__.b .nil pass0 rfl X.me_InvalidSubject (pa_cons (pv 2) pa_nil)))) pss_nil))))), ?_⟩
    try dsimp only [Cx.nox, Cx.wish, cxOf]
    refine ⟨_, rfl, _, _, _, _, isLD d, rfl, .ty "list", hd.ty K, kit_l d, isLD d, rfl, ?_⟩
    cases hd with
    | @lst a xs ds ha hall =>
      refine iteF ?_
      have hln := hall.len
      have hbad : ∀ iv, idx (firstBad (badSome tags ds) ds.length) = some iv → Bad X.e_InvalidSubject "index" iv H E := hbad
      have hok : idx (firstBad (badSome tags ds) ds.length) = none → ∀ H', Same H H' → Q .non H' := hok
      refine ⟨_, rfl, _, _, rfl, SqL.of ha, ?_⟩
      refine for_it (walk_enum (K := K) (a := a) (xs := xs)) (fun i σ H' => ∃ v1 v2, σ = [some (.ref ta), some (.ref a), v1, v2] ∧ Same H H' ∧ ∀ j < i, badSome tags ds j = false) ⟨none, none, rfl, Same.refl H, fun j hj => by omega⟩ (fun i σ H' _ ⟨_, _, _, s1, _⟩ => SqL.of (s1 _ _ ha)) ?_ ?_
      · rintro i v σ H1 H2 hi ⟨v1, v2, rfl, s1, hno⟩ ⟨tp, x1, x2, rfl, ntp, rfl, e1, e2⟩
        have e1 : some (V.int (i : Int)) = some x1 := e1
        have e2 : xs[i]? = some x2 := e2
        cases e1
        obtain ⟨d2, hd2, hv2⟩ := hall.get e2
        have s2 := Same.new s1 (o := .tup [.int (i : Int), x2]) ntp
        refine ⟨tp, _, rfl, SqT.of upd_same, rfl, _, _, rfl, _, _, rfl, rfl, ?_⟩
        refine ⟨_, rfl, _, rfl, ta, tags, x2, d2, rfl, Same.word s2 hta, hv2.same s2, ?_⟩
        have hi2 : i < ds.length := by omega
        have hbe : badSome tags ds i = (!tagD tags d2 || (ds.take i).any fun e => sameS e d2) := by
          unfold badSome
          rw [hd2]
        have bad : badSome tags ds i = true → Bad X.e_InvalidSubject "index" (.int (i : Int)) H E := fun z => hbad _ (by rw [first_at hi2 z hno]; rfl)
        refine ⟨_, rfl, ?_⟩
        cases hn : tagD tags d2 with
        | false =>
          rw [hn] at hbe
          refine iteT ?_
          exact ⟨_, rfl, ((bad hbe).same s2).mk (K := K)⟩
        | true =>
          refine iteF ?_
          rw [hn] at hbe
          obtain ⟨t, rfl, _⟩ := tagD_str hn
          have before := some_before (tags := tags) (Nat.le_of_lt hi2) hno
          obtain ⟨fl, fi⟩ := tags_flat (hall.take i) before
          refine ⟨_, rfl, _, rfl, _, rfl, _, rfl, a, _, rfl, SqL.of (s2 _ _ ha), fun q hq => ?_⟩
          rw [cut_take]
          cases hv2
          refine ⟨q, _, rfl, .inl (SqL.of upd_same), rfl, fl, _, rfl, ?_⟩
          rw [if_neg Bool.false_ne_true, fi t]
          have s5 := Same.new s2 (o := .lst (xs.take i)) hq
          cases hin : (ds.take i).any fun e => sameS e (.str t) with
          | true =>
            rw [hin] at hbe
            refine iteT ?_
            exact ⟨_, rfl, ((bad hbe).same s5).mk (K := K)⟩
          | false =>
            rw [hin] at hbe
            refine iteF ⟨_, _, rfl, s5, fun j hj => ?_⟩
            rcases Nat.lt_or_ge j i with z | z
            · exact hno j z
            · have : j = i := by omega
              subst this
              exact hbe
      · rintro σ H1 ⟨v1, v2, rfl, s1, hno⟩
        exact hok (by rw [first_none (fun i hi => hno i (by omega))]; rfl) H1 s1
    | _ => exact iteT ((hbad .non rfl).mk (K := K))
end
end Law
end

section
set_option Elab.async false
set_option linter.all false
set_option maxRecDepth 100000
set_option maxHeartbeats 4000000
namespace Law
open PySem PySem.Spec PyProof.Rows L2 LamX QB QM QV
theorem nodup_sub : ∀ {l m : List Str}, l.Nodup → (∀ x ∈ l, x ∈ m) → l.length ≤ m.length
  | [], _, _, _ => Nat.zero_le _
  | x :: l, m, h, s => by
    have hx := s x List.mem_cons_self
    rw [List.nodup_cons] at h
    have ih := nodup_sub (l := l) (m := m.erase x) h.2 fun y hy => (List.mem_erase_of_ne fun e => h.1 (by rw [← e]; exact hy)).mpr (s y (List.mem_cons_of_mem _ hy))
    rw [List.length_erase_of_mem hx] at ih
    have : 0 < m.length := List.length_pos_of_mem hx
    rw [List.length_cons]
    omega
def pairPD (p : Str × Str) : PyData := .tuple [.str p.1, .str p.2]
theorem pairD_to {tags : List Str} {d : PyData} (h : pairD tags d = true) : ∃ p : Str × Str, d = pairPD p ∧ p.1 ∈ tags ∧ p.2 ∈ tags := by
  unfold pairD at h
  split at h
  · rw [Bool.and_eq_true] at h
    obtain ⟨t, rfl, ht⟩ := tagD_str h.1
    obtain ⟨u, rfl, hu⟩ := tagD_str h.2
    exact ⟨(t, u), rfl, ht, hu⟩
  · cases h
theorem pairs_strs {tags : List Str} : ∀ {ds : List PyData}, (∀ d ∈ ds, pairD tags d = true) → ∃ us : List (Str × Str), ds = us.map pairPD ∧ ∀ p ∈ us, p.1 ∈ tags ∧ p.2 ∈ tags
  | [], _ => ⟨[], rfl, fun _ h => nomatch h⟩
  | d :: ds, h => by
    obtain ⟨us, e, hn⟩ := pairs_strs fun x hx => h x (List.mem_cons_of_mem _ hx)
    obtain ⟨p, rfl, hp⟩ := pairD_to (h d List.mem_cons_self)
    refine ⟨p :: us, by rw [e]; rfl, fun q hq => ?_⟩
    rcases List.mem_cons.mp hq with rfl | hq
    · exact hp
    · exact hn q hq
theorem firsts_any (t : Str) (us : List (Str × Str)) : ((us.map pairPD).any fun e => sameS (fstD e) (.str t)) = decide (t ∈ us.map (·.1)) := by
  rw [← same_any, List.any_map, List.any_map, List.any_map]
  rfl
theorem pair_before {tags : List Str} {ds : List PyData} {i : Nat} (hi : i ≤ ds.length) (h : ∀ j < i, badPair tags ds j = false) : ∀ d ∈ ds.take i, pairD tags d = true := fun d hd => by
  obtain ⟨j, hj, e⟩ := List.mem_iff_getElem.mp hd
  rw [List.length_take] at hj
  have hb := h j (by omega)
  unfold badPair at hb
  rw [List.getElem_take] at e
  rw [List.getElem?_eq_getElem (by omega), e] at hb
  dsimp only at hb
  rw [Bool.or_eq_false_iff] at hb
  simpa using hb.1
theorem pairs_ofD {H : Hp} {v : V} {d : PyData} {tags : List Str} (h : Dv H v d) (hd : pairsDue tags d = none) : ∃ (a : Addr) (xs : List V) (us : List (Str × Str)), v = .ref a ∧ H a = some (.lst xs) ∧ DvAll H xs (us.map pairPD) ∧ (∀ p ∈ us, p.1 ∈ tags ∧ p.2 ∈ tags) ∧ us.length ≤ tags.length := by
  cases h with
  | @lst a xs ds ha hall =>
    have hd : idx (firstBad (badPair tags ds) ds.length) = none := hd
    have good := firstBad_none hd
    obtain ⟨us, e, hw⟩ := pairs_strs (tags := tags) (ds := ds) fun d hm => pair_before (Nat.le_refl _) good d (by rw [List.take_length]; exact hm)
    subst e
    have nd : (us.map (·.1)).Nodup := by
      unfold List.Nodup
      rw [List.pairwise_iff_getElem]
      intro i j hi hj hij z
      rw [List.length_map] at hi hj
      have b := good j (by rw [List.length_map]; exact hj)
      unfold badPair at b
      rw [List.getElem?_map, List.getElem?_eq_getElem hj] at b
      dsimp only [Option.map] at b
      rw [Bool.or_eq_false_iff, ← List.map_take] at b
      have b2 := b.2
      have fe : fstD (pairPD us[j]) = .str us[j].1 := rfl
      rw [fe, firsts_any] at b2
      have nb := of_decide_eq_false b2
      refine nb ?_
      rw [List.getElem_map, List.getElem_map] at z
      rw [← z]
      exact List.mem_map.mpr ⟨us[i], List.mem_take_iff_getElem.mpr ⟨i, by omega, rfl⟩, rfl⟩
    have ln := nodup_sub nd fun x hx => by
      obtain ⟨p, hp, rfl⟩ := List.mem_map.mp hx
      exact (hw p hp).1
    rw [List.length_map] at ln
    exact ⟨a, xs, us, rfl, ha, hall, hw, ln⟩
  | _ => cases hd
section
variable {P : Program} {w : World} {K : PySem.W.Frag} {mg : Str → Option Value} {base : Heap}
theorem oka_is_pair (X : TX K mg) : FnOk P w K mg base CX0 2 X.d_is_pair.a X.d_is_pair.fd ["tags", "x"]
    (fun vs H Q _ => ∃ (a : Addr) (tags : List Str) (v : V) (d : PyData), vs = [.ref a, v] ∧ WordAt H a tags ∧ Dv H v d ∧ Q (.bl (pairD tags d)) H) := by
  have nd := sc_is_pair.nd
  refine X.d_is_pair.F.ok sc_is_pair (fun vs H Q E h => ?_) (fun cdv A outer s H vs Q E hr h => ?_)
  · obtain ⟨a, tags, v, d, rfl, _⟩ := h
    rfl
  · obtain ⟨a, tags, v, d, rfl, ha, hd, k⟩ := h
    refine ⟨_, (pss_one (ps_ret (pe_and (pe_callB (QB.call_isiK K) (by rfl) X.n_isinstance QB.bo_isinstance (pa_cons (pv 1) (pa_cons (pe_bltn (v := .ty "tuple") (by rfl) X.n_tuple QB.bo_tuple rfl) pa_nil))) (pe_and (pe_cmpR op_eq (pe_callB (QB.call_lenK K) (by rfl) X.n_len PySem.boot_len (pa_cons (pv 1) pa_nil)) pe_int (nomark _)) (pe_and (pe_call (oka_is_tag X) (hr.mono (by decide)) rfl X.d_is_tag.mg X.d_is_tag.F.kp X.d_is_tag.b .nil pass0 (pa_cons (pv 0) (pa_cons (pe_ix (QB.ix_tupK K) (pv 1) pe_int (fun _ _ => rfl)) pa_nil))) (pe_one (pe_call (oka_is_tag X) (hr.mono (by decide)) rfl X.d_is_tag.mg X.d_is_tag.F.kp X.d_is_tag.b .nil pass0 (pa_cons (pv 0) (pa_cons (pe_ix (QB.ix_tupK K) (pv 1) pe_int (fun _ _ => rfl)) pa_nil))))))))), ?_⟩
    try dsimp only [Cx.nox, Cx.wish, cxOf]
    refine ⟨_, rfl, _, _, _, _, isTD d, rfl, .ty "tuple", hd.ty K, kit_t d, isTD d, rfl, ?_⟩
    cases hd with
    | @tup x xs ds hx hall =>
      refine iteT ?_
      have hln := hall.len
      refine ⟨_, rfl, _, _, rfl, .inr (SqT.of hx), rfl, _, rfl, ?_⟩
      by_cases h2 : xs.length = 2
      case neg =>
        rw [decide_eq_false (fun e => h2 (by injection e with e; omega))]
        have e : pairD tags (.tuple ds) = false := by
          match ds, hln with
          | [], _ => rfl
          | [_], _ => rfl
          | [_, _], h => exact absurd h.symm h2
          | _ :: _ :: _ :: _, _ => rfl
        rw [e] at k
        exact iteF k
      rw [decide_eq_true (show V.int (xs.length : Int) = V.int 2 by rw [h2]; rfl)]
      refine iteT ?_
      match xs, ds, h2, hall with
      | [v1, v2], _, _, .cons (d := d1) hd1 (.cons (d := d2) hd2 .nil) =>
      have k : Q (.bl (tagD tags d1 && tagD tags d2)) H := k
      refine ⟨_, rfl, _, rfl, x, _, 0, v1, rfl, rfl, SqT.of hx, rfl, a, tags, v1, d1, rfl, ha, hd1, ?_⟩
      refine ⟨_, rfl, ?_⟩
      cases q1 : tagD tags d1 with
      | false =>
        rw [q1] at k
        exact iteF k
      | true =>
        rw [q1] at k
        refine iteT ?_
        exact ⟨_, rfl, _, rfl, x, _, 1, v2, rfl, rfl, SqT.of hx, rfl, a, tags, v2, d2, rfl, ha, hd2, k⟩
    | _ => exact iteF k
def spCheckPairsD (C : Addr) : Sp := fun vs H Q E => ∃ (a : Addr) (tags : List Str) (v : V) (d : PyData), vs = [.ref a, v] ∧ WordAt H a tags ∧ Dv H v d ∧ d.weight ≤ 10000 ∧ (∀ iv, pairsDue tags d = some iv → Bad C "index" iv H E) ∧ (pairsDue tags d = none → ∀ H', Same H H' → Q .non H')
theorem okx_check_pairs (X : TX K mg) : FnOk P w K mg base (L2.CX P w) 3 X.d_check_pairs.a X.d_check_pairs.fd ["tags", "pairs"] (spCheckPairsD X.e_InvalidPairs) := by
  have nd := sc_check_pairs.nd
  refine X.d_check_pairs.F.okX sc_check_pairs (fun vs H Q E h => ?_) (fun cdv A outer s H vs Q E hr h => ?_)
  · obtain ⟨a, tags, v, d, rfl, _⟩ := h
    rfl
  · obtain ⟨ta, tags, v, d, rfl, hta, hd, hz, hbad, hok⟩ := h
    refine ⟨_, (pss_cons (ps_if (pt_not (pt_val (pe_callB (QB.call_isiK K) (by rfl) X.n_isinstance QB.bo_isinstance (pa_cons (pv 1) (pa_cons (pe_bltn (v := .ty "list") (by rfl) X.n_list QB.bo_list rfl) pa_nil))))) (pss_one (ps_raise rfl (takes_of rfl rfl rfl rfl) (pmk_oex X.xt_InvalidPairs.oex X.xt_InvalidPairs.iC X.xt_InvalidPairs.tI (ok_InvalidPairs___init__ X) (hr.mono (by decide)) X.d_InvalidPairs___init__.b .nil pass0 rfl X.me_InvalidPairs (pa_cons pe_non pa_nil)))) pss_nil) (pss_cons (ps_set (i := 2) nd rfl (Or.inl rfl) (pe_lst pa_nil)) (pss_one (ps_for (passes_of rfl) rfl (QB.pi_enumK K (by rfl) X.n_enumerate (pa_cons (pv 1) pa_nil)) (pg_tup (by rfl) (pgs_cons (pg_name (i := 3) nd rfl (Or.inl rfl)) (pgs_cons (pg_name (i := 4) nd rfl (Or.inl rfl)) (pgs_nil)))) (pss_cons (ps_if (PW.pt (pw_or (pt_not (pt_val (pe_call (oka_is_pair X) (hr.mono (by decide)) rfl X.d_is_pair.mg X.d_is_pair.F.kp X.d_is_pair.b .nil pass0 (pa_cons (pv 0) (pa_cons (pv 4) pa_nil))))) (pw_or1 (pt_cmpR (QB.op_inK K) (pe_ix (QB.ix_tupK K) (pv 4) pe_int (fun _ _ => rfl)) (pv 2) rfl)))) (pss_one (ps_raise rfl (takes_of rfl rfl rfl rfl) (pmk_oex X.xt_InvalidPairs.oex X.xt_InvalidPairs.iC X.xt_InvalidPairs.tI (ok_InvalidPairs___init__ X) (hr.mono (by decide)) X.d_InvalidPairs___init__.b .nil pass0 rfl X.me_InvalidPairs (pa_cons (pv 3) pa_nil)))) pss_nil) (pss_one (ps_expr (QB.pe_bmK K PySem.F.plainAttrs_list PySem.F.slot_list_append PySem.F.type_list_append mt_append (pv 2) (pa_cons (pe_ix (QB.ix_tupK K) (pv 4) pe_int (fun _ _ => rfl)) pa_nil))))))))), ?_⟩
    try dsimp only [Cx.nox, Cx.wish, cxOf]
    refine ⟨_, rfl, _, _, _, _, isLD d, rfl, .ty "list", hd.ty K, kit_l d, isLD d, rfl, ?_⟩
    cases hd with
    | @lst a xs ds ha hall =>
      refine iteF ?_
      have hln := hall.len
      rw [w_list] at hz
      have z1 := all_len ds
      have hbad : ∀ iv, idx (firstBad (badPair tags ds) ds.length) = some iv → Bad X.e_InvalidPairs "index" iv H E := hbad
      have hok : idx (firstBad (badPair tags ds) ds.length) = none → ∀ H', Same H H' → Q .non H' := hok
      refine ⟨by show 0 ≤ sizeLine; decide, fun D hD => ?_⟩
      have s0 := same_new (o := .lst ([] : List V)) hD
      have k0 : WordAt (upd H D (.lst [])) D [] := upd_same
      have aD : a ≠ D := ne_of_none ha hD
      generalize upd H D (.lst []) = H0 at s0 k0 ⊢
      refine ⟨_, rfl, _, _, rfl, SqL.of (s0 _ _ ha), ?_⟩
      refine for_it (walk_enum (K := K) (a := a) (xs := xs)) (fun i σ H' => ∃ v1 v2, ∃ us : List (Str × Str), σ = [some (.ref ta), some (.ref a), some (.ref D), v1, v2] ∧ Same H H' ∧ WordAt H' D (us.map (·.1)) ∧ ds.take i = us.map pairPD ∧ us.length = i ∧ ∀ j < i, badPair tags ds j = false)
        ⟨none, none, [], rfl, s0, k0, rfl, rfl, fun j hj => by omega⟩ (fun i σ H' _ ⟨_, _, _, _, s1, _⟩ => SqL.of (s1 _ _ ha)) ?_ ?_
      · rintro i v σ H1 H2 hi ⟨v1, v2, us, rfl, s1, kD, eu, ul, hno⟩ ⟨tp, x1, x2, rfl, ntp, rfl, e1, e2⟩
        have e1 : some (V.int (i : Int)) = some x1 := e1
        have e2 : xs[i]? = some x2 := e2
        cases e1
        obtain ⟨d2, hd2, hv2⟩ := hall.get e2
        have s2 := Same.new s1 (o := .tup [.int (i : Int), x2]) ntp
        have kD2 : WordAt (upd H1 tp (.tup [.int (i : Int), x2])) D (us.map (·.1)) := (same_new ntp) _ _ kD
        refine ⟨tp, _, rfl, SqT.of upd_same, rfl, _, _, rfl, _, _, rfl, rfl, ?_⟩
        generalize upd H1 tp (.tup [.int (i : Int), x2]) = H3 at s2 kD2 ⊢
        refine ⟨_, rfl, _, rfl, ta, tags, x2, d2, rfl, Same.word s2 hta, hv2.same s2, ?_⟩
        have hi2 : i < ds.length := by omega
        have hbe : badPair tags ds i = (!pairD tags d2 || (ds.take i).any fun e => sameS (fstD e) (fstD d2)) := by
          unfold badPair
          rw [hd2]
        have bad : badPair tags ds i = true → Bad X.e_InvalidPairs "index" (.int (i : Int)) H E := fun z => hbad _ (by rw [first_at hi2 z hno]; rfl)
        refine ⟨_, rfl, ?_⟩
        cases hn : pairD tags d2 with
        | false =>
          rw [hn] at hbe
          refine iteT ?_
          exact ⟨_, rfl, ((bad hbe).same s2).mk (K := K)⟩
        | true =>
          refine iteF ?_
          rw [hn] at hbe
          obtain ⟨p, rfl, _⟩ := pairD_to hn
          have fe : fstD (pairPD p) = .str p.1 := rfl
          rw [fe, eu, firsts_any] at hbe
          obtain ⟨fs, hfs⟩ : ∃ fs : Word, fs = us.map (·.1) := ⟨_, rfl⟩
          rw [← hfs] at hbe kD2
          have hv3 := hv2.same s2
          unfold pairPD at hv3
          cases hv3 with
          | @tup x ys _ hx hys =>
          cases hys with
          | cons hy1 hys =>
          cases hys with
          | cons hy2 hys =>
          cases hys
          cases hy1
          cases hy2
          refine ⟨_, rfl, x, _, 0, .str p.1, rfl, rfl, SqT.of hx, rfl, _, rfl, D, vS fs, rfl, .inl (SqL.of kD2), rfl, vS_flat, _, rfl, ?_⟩
          rw [if_neg Bool.false_ne_true, inV_word]
          by_cases hin : p.1 ∈ fs
          · rw [decide_eq_true hin] at hbe ⊢
            refine iteT ?_
            exact ⟨_, rfl, ((bad hbe).same s2).mk (K := K)⟩
          · rw [decide_eq_false hin] at hbe ⊢
            refine iteF ?_
            refine ⟨_, rfl, .inl ⟨rfl, _, SqL.of kD2⟩, _, rfl, x, _, 0, .str p.1, rfl, rfl, SqT.of hx, rfl, D, _, _, rfl, rfl, kD2, by rw [vS_len, hfs, List.length_map]; exact sz_lt (by omega), ?_⟩
            refine ⟨_, _, us ++ [p], rfl, Same.mut s2 hD, ?_, ?_, by rw [List.length_append, ul]; rfl, fun j hj => ?_⟩
            · unfold WordAt
              rw [upd_same, List.map_append, hfs]
              unfold vS
              rw [List.map_append]
              rfl
            · rw [List.take_succ, eu, hd2, List.map_append]
              rfl
            · rcases Nat.lt_or_ge j i with z | z
              · exact hno j z
              · have : j = i := by omega
                subst this
                exact hbe
      · rintro σ H1 ⟨v1, v2, us, rfl, s1, kD, eu, ul, hno⟩
        exact hok (by rw [first_none (fun i hi => hno i (by omega))]; rfl) H1 s1
    | _ => exact iteT ((hbad .non rfl).mk (K := K))
/-- the ways of a maker -/
def waysFor (tags some_ : Word) (to_ : Nat) : Ways := tags.map fun t => if t ∈ some_ then some to_ else none
theorem waysFor_to {tags some_ : Word} {to_ m : Nat} (h : some m ∈ waysFor tags some_ to_) : m = to_ := by
  obtain ⟨t, _, e⟩ := List.mem_map.mp h
  split at e
  · exact (Option.some.inj e).symm
  · cases e
theorem ok_ways_for (X : TX K mg) : FnOk P w K mg base CX0 1 X.d_ways_for.a X.d_ways_for.fd ["tags", "some", "to"]
    (fun vs H Q _ => ∃ (a b : Addr) (tags some_ : Word) (to_ : Nat), vs = [.ref a, .ref b, .int (to_ : Int)] ∧ WordAt H a tags ∧ WordAt H b some_ ∧ tags.length ≤ 100 ∧ ∀ (p : Addr) (H' : Hp), Same H H' → H p = none → WaysAt H' p (waysFor tags some_ to_) → Q (.ref p) H') := by
  have nd := sc_ways_for.nd
  refine X.d_ways_for.F.ok sc_ways_for (fun vs H Q E h => ?_) (fun cdv A outer s H vs Q E hr h => ?_)
  · obtain ⟨a, b, tags, some_, to_, rfl, _⟩ := h
    rfl
  · obtain ⟨a, b, tags, some_, to_, rfl, ha, hb, hl, k⟩ := h
    refine ⟨_, (pss_one (ps_ret (pe_lc (own := [("tag", 3)]) (g := gName 3) (tt := tYes) rfl nd (QB.pi_listK K (pv 0)) (blkOk_by (N := ["tags", "some", "to", "tag"]) (sc := defScope s_ways_for) (by decide +kernel)) (fun _ _ _ _ _ => pg_name (i := 3) nd rfl (Or.inl rfl)) (fun _ _ _ _ _ => pts_nil) (fun _ _ _ _ _ => (pe_ifExp (pt_cmpR (QB.op_inK K) (pv 3) (pv 1) rfl) (pv 2) pe_non))))), ?_⟩
    try dsimp only [Cx.nox, Cx.wish, cxOf]
    refine ⟨_, rfl, _, rfl, ⟨_, SqL.of ha⟩, fun D hD => ?_⟩
    refine lc_map (walk_listW (K := K) (a := a) (w := tags)) hD (by omega) (fun H2 s2 => Same.word s2 ha) (fun i => vW (((tags[i]?).map fun t => if t ∈ some_ then some to_ else none).getD none)) ?_ ?_
    · rintro j x H2 H3 kk hj s2 ⟨y, hy, rfl, rfl⟩ hk
      have hk := hk _ (Same.refl H3)
      rw [hy] at hk
      have hk : kk (vW (if y ∈ some_ then some to_ else none)) H3 := hk
      refine ⟨rfl, _, rfl, _, rfl, b, vS some_, rfl, .inl (SqL.of (Same.word s2 hb)), rfl, vS_flat, _, rfl, ?_⟩
      rw [if_neg Bool.false_ne_true, inV_word]
      by_cases hin : y ∈ some_
      · rw [if_pos hin] at hk
        rw [decide_eq_true hin]
        exact iteT ⟨_, rfl, hk⟩
      · rw [if_neg hin] at hk
        rw [decide_eq_false hin]
        exact iteF hk
    · intro H2 s2 e
      refine k D H2 s2 hD ?_
      unfold WaysAt waysFor vWs
      rw [e, List.map_map, range_map_get _ tags (fun t => vW (if t ∈ some_ then some to_ else none)) (fun i x hx => by rw [hx]; rfl)]
      rfl
theorem pt_rep {α : Type} (n : Nat) (x : α) : (List.replicate n [x]).flatten = List.replicate n x := by
  induction n with
  | zero => rfl
  | succ n ih =>
    rw [List.replicate_succ, List.flatten_cons, ih]
    rfl
theorem pt_nones (n : Nat) : vWs (List.replicate n none) = List.replicate n V.non := by
  unfold vWs
  rw [List.map_replicate]
  rfl
def spNoWays : Sp := fun vs H Q _ => ∃ (a : Addr) (tags : Word), vs = [.ref a] ∧ WordAt H a tags ∧ tags.length ≤ 100 ∧ ∀ (p : Addr) (H' : Hp), Same H H' → H p = none → WaysAt H' p (List.replicate tags.length none) → Q (.ref p) H'
theorem ok_no_ways (X : TX K mg) : FnOk P w K mg base CX0 1 X.d_no_ways.a X.d_no_ways.fd ["tags"] spNoWays := by
  have nd := sc_no_ways.nd
  refine X.d_no_ways.F.ok sc_no_ways (fun vs H Q E h => ?_) (fun cdv A outer s H vs Q E hr h => ?_)
  · obtain ⟨a, tags, rfl, _⟩ := h
    rfl
  · obtain ⟨a, tags, rfl, ha, hz, k⟩ := h
    refine ⟨_, (pss_one (ps_ret (pe_op op_rep (pe_lst (pa_cons pe_non pa_nil)) (pe_callB (QB.call_lenK K) (by rfl) X.n_len PySem.boot_len (pa_cons (pv 0) pa_nil))))), ?_⟩
    try dsimp only [Cx.nox, Cx.wish, cxOf]
    refine ⟨by show 1 ≤ sizeLine; decide, fun q hq => ?_⟩
    have s1 := same_new (o := .lst [V.non]) hq
    have h1 : (upd H q (.lst [V.non])) q = some (.lst [V.non]) := upd_same
    generalize upd H q (.lst [V.non]) = H1 at s1 h1 ⊢
    refine ⟨_, rfl, _, _, rfl, .inl (SqL.of (Same.word s1 ha)), q, _, _, rfl, rfl, h1, by rw [vS_len]; omega, by rw [vS_len]; omega, by rw [vS_len]; show 1 * _ ≤ sizeLine; exact sz_le (by omega), fun p hp => ?_⟩
    refine k p _ (Same.new s1 hp) (s1.free hp) ?_
    unfold WaysAt
    rw [upd_same, vS_len, pt_nones, pt_rep]
    rfl
end
end Law
end

section
set_option Elab.async false
set_option linter.all false
set_option maxRecDepth 100000
set_option maxHeartbeats 4000000
namespace Law
open PySem PySem.Spec PyProof.Rows L2 LamX QB QM QV
/-- what an argument is refused as -/
inductive K5
  | tags | subject | tag | pairs | number
def K5.name : K5 → Str
  | .tags => Str.ofString "tags"
  | .subject => Str.ofString "subject"
  | .tag => Str.ofString "tag"
  | .pairs => Str.ofString "pairs"
  | .number => Str.ofString "number"
abbrev DueM := Option (K5 × V)
def els (a b : DueM) : DueM := match a with
  | some x => some x
  | none => b
def tagsM (dv : PyData) : DueM := (tagsDue dv).map fun iv => (K5.tags, iv)
def wordM (tags : List Str) (most : Nat) (d : PyData) : DueM := (wordDue tags most d).map fun iv => (K5.subject, iv)
def someM (tags : List Str) (d : PyData) : DueM := (someDue tags d).map fun iv => (K5.subject, iv)
def tagM (tags : List Str) (v : V) (d : PyData) : DueM := if tagD tags d = true then none else some (K5.tag, v)
def pairsM (tags : List Str) (d : PyData) : DueM := (pairsDue tags d).map fun iv => (K5.pairs, iv)
def numM (v : V) (d : PyData) : DueM := if numD 0 20 d = true then none else some (K5.number, v)
def putM (dv d : PyData) : DueM := els (tagsM dv) (wordM (tagsIn dv) 8 d)
def stripM (dv d : PyData) (v2 : V) (d2 : PyData) : DueM := els (tagsM dv) (els (someM (tagsIn dv) d) (if noneD d2 = true then none else numM v2 d2))
def onceM (dv : PyData) (v : V) (d : PyData) : DueM := els (tagsM dv) (tagM (tagsIn dv) v d)
def exchangeM (dv d : PyData) : DueM := els (tagsM dv) (pairsM (tagsIn dv) d)
def pressM (dv : PyData) (v : V) (d : PyData) (v2 : V) (d2 : PyData) : DueM := els (tagsM dv) (els (tagM (tagsIn dv) v d) (numM v2 d2))
def BadK {K : PySem.W.Frag} {mg : Str → Option Value} (X : TX K mg) (k : K5) (iv : V) (H : Hp) (E : XK) : Prop := match k with
  | .tags => Bad X.e_InvalidTags "index" iv H E
  | .subject => Bad X.e_InvalidSubject "index" iv H E
  | .tag => Bad X.e_InvalidTag "tag" iv H E
  | .pairs => Bad X.e_InvalidPairs "index" iv H E
  | .number => Bad X.e_InvalidNumber "number" iv H E
theorem BadK.same {K : PySem.W.Frag} {mg : Str → Option Value} {X : TX K mg} {k : K5} {iv : V} {H H' : Hp} {E : XK} (h : BadK X k iv H E) (s : Same H H') : BadK X k iv H' E := by
  cases k <;> exact Bad.same h s
/-- how a maker ends -/
def Ends {K : PySem.W.Frag} {mg : Str → Option Value} (X : TX K mg) (due : DueM) (T : List (Addr × Str)) (H : Hp) (Q : VK) (E : XK) : Prop := match due with
  | none => ∀ e H', QB.Ext T H H' → Tabs T H' → Q (.ref e) H'
  | some (k, iv) => BadK X k iv H E
theorem init_done {T : List (Addr × Str)} {C : Addr} {H0 H : Hp} {a b : Addr} {tags : Word} {F : Form} {Q : VK} {E : XK} (ha : WordAt H a tags) (hF : FormAt H b F) (to : TagsOk tags) (fo : FormOk tags F) (tb : Tabs T H) (e0 : QB.Ext T H0 H)
    (k : ∀ e H', QB.Ext T H0 H' → Tabs T H' → Q (.ref e) H') : ∀ x dx, H x = none → H dx = none → dx ≠ x → spInit T C (.ref x :: ([.ref a, .ref b] ++ [])) (upd (upd H dx (.own x)) x (.ins C dx [])) (fun v H2 => v = .non ∧ Q (.ref x) H2) E := fun x dx hx hd hne => by
  have hx' : (upd H dx (.own x)) x = none := (upd_ne hne.symm).trans hx
  have sM : Same H (upd (upd H dx (.own x)) x (.ins C dx [])) := Same.new (same_new hd) hx'
  exact ⟨x, dx, a, b, tags, F, H, rfl, upd_same, Same.word sM ha, Same.form sM hF, to, fo, tb.ext sM, .of sM, .of hx, fun a' b' L H' e' t' n' => ⟨rfl, k x H' (e0.trans e') t'⟩⟩
theorem std_at {H : Hp} {t a b : Addr} {s : Std} (h1 : H t = some (.tup [.ref a, .ref b])) (h2 : WordAt H a s.1) (h3 : WaysAt H b s.2) : StdAt H t s := ⟨a, b, h1, h2, h3⟩
theorem waysFor_len (tags some_ : Word) (to_ : Nat) : (waysFor tags some_ to_).length = tags.length := List.length_map ..
theorem std_for {tags wd some_ : Word} {to_ n : Nat} (h1 : wd.length ≤ 8) (h2 : ∀ t ∈ wd, t ∈ tags) (h : to_ < n) : StdOk tags n (wd, waysFor tags some_ to_) := ⟨h1, h2, waysFor_len .., fun m hm => by rw [waysFor_to hm]; exact h⟩
theorem std_none {tags wd : Word} {n : Nat} (h1 : wd.length ≤ 8) (h2 : ∀ t ∈ wd, t ∈ tags) : StdOk tags n (wd, List.replicate tags.length none) := ⟨h1, h2, List.length_replicate .., fun m hm => by cases List.eq_of_mem_replicate hm⟩
section
variable {P : Program} {w : World} {K : PySem.W.Frag} {mg : Str → Option Value} {base : Heap}
def spPutX (X : TX K mg) (T : List (Addr × Str)) : Sp := fun vs H Q E => ∃ (v y : V) (dv dy : PyData), vs = [v, y] ∧ Dv H v dv ∧ Dv H y dy ∧ dv.weight ≤ 10000 ∧ dy.weight ≤ 10000 ∧ Tabs T H ∧ Ends X (putM dv dy) T H Q E
theorem okx_put (X : TX K mg) (TB : LamX.TabB base mg X.lam_c X.lam_P) : FnOk P w K mg base (L2.CX P w) 7 X.d_put.a X.d_put.fd ["tags", "word"] (spPutX X (Tof X)) := by
  have nd := sc_put.nd
  refine X.d_put.F.okX sc_put (fun vs H Q E h => ?_) (fun cdv A outer s0 H vs Q E hr h => ?_)
  · obtain ⟨v, y, dv, dy, rfl, _⟩ := h
    rfl
  · obtain ⟨v, y, dv, dy, rfl, hv, hy, zv, zy, tb, h⟩ := h
    refine ⟨_, (pss_cons (ps_expr (pe_call (okx_check_tags X) (hr.mono (by decide)) rfl X.d_check_tags.mg X.d_check_tags.F.kp X.d_check_tags.b .nil (passes_call (takes_of rfl rfl rfl rfl) (fun _ _ _ _ h => h)) (pa_cons (pv 0) pa_nil))) (pss_cons (ps_expr (pe_call (okx_check_word X) (hr.mono (by decide)) rfl X.d_check_word.mg X.d_check_word.F.kp X.d_check_word.b .nil (passes_call (takes_of rfl rfl rfl rfl) (fun _ _ _ _ h => h)) (pa_cons (pv 0) (pa_cons (pv 1) (pa_cons (pe_gc rfl X.c_LONGEST_WORD) pa_nil))))) (pss_one (ps_ret (pe_make X.mk_Eater (ok_Eater___init__ X TB) (hr.mono (by decide)) rfl X.m_Eater X.d_Eater___init__.b .nil pass0 (pa_cons (pv 0) (pa_cons (pe_lst (pa_cons (pe_tup (pa_cons (pv 1) (pa_cons (pe_call (ok_no_ways X) (hr.mono (by decide)) rfl X.d_no_ways.mg X.d_no_ways.F.kp X.d_no_ways.b .nil pass0 (pa_cons (pv 0) pa_nil)) pa_nil))) pa_nil)) pa_nil))))))), ?_⟩
    try dsimp only [Cx.nox, Cx.wish, cxOf]
    unfold putM tagsM wordM at h
    refine ⟨_, rfl, v, dv, rfl, hv, zv, fun iv e => ?_, fun e H1 s1 => ?_⟩
    · rw [e] at h
      exact h
    rw [e] at h
    obtain ⟨a, tags, rfl, ha, to, rfl⟩ := tags_of hv e
    rw [tagsIn_strs] at h
    have htl := to.len
    refine ⟨_, rfl, _, rfl, a, tags, y, dy, 8, rfl, Same.word s1 ha, hy.same s1, zy, fun iv e2 => ?_, fun e2 H2 s2 => ?_⟩
    · rw [e2] at h
      exact (show Bad X.e_InvalidSubject "index" iv H E from h).same s1
    rw [e2] at h
    have k : ∀ e H', QB.Ext (Tof X) H H' → Tabs (Tof X) H' → Q (.ref e) H' := h
    obtain ⟨b, wd, rfl, hw, hl, hin⟩ := word_ofD hy e2
    have s12 := s1.trans s2
    refine ⟨_, rfl, _, rfl, _, rfl, a, tags, rfl, Same.word s12 ha, by omega, fun x3 H3 s3 n3 r3 => ?_⟩
    have s13 := s12.trans s3
    refine ⟨by show 2 ≤ sizeLine; decide, fun x4 m4 => ⟨by show 1 ≤ sizeLine; decide, fun x5 m5 => ?_⟩⟩
    have s5 : Same H3 (upd (upd H3 x4 (.tup [V.ref b, V.ref x3])) x5 (.lst [V.ref x4])) := Same.new (same_new m4) m5
    have r4 : (upd (upd H3 x4 (.tup [V.ref b, V.ref x3])) x5 (.lst [V.ref x4])) x4 = some (.tup [V.ref b, V.ref x3]) := (upd_ne (ne_of_none upd_same m5)).trans upd_same
    have hF : FormAt (upd (upd H3 x4 (.tup [V.ref b, V.ref x3])) x5 (.lst [V.ref x4])) x5 [(wd, List.replicate tags.length none)] := ⟨[x4], upd_same, .cons (std_at r4 (Same.word (s13.trans s5) hw) (Same.ways s5 r3)) .nil⟩
    generalize upd (upd H3 x4 (.tup [V.ref b, V.ref x3])) x5 (.lst [V.ref x4]) = H5 at s5 hF ⊢
    have s15 := s13.trans s5
    exact init_done (Same.word s15 ha) hF to ⟨by show 1 ≤ 1; decide, by show 1 ≤ 30; decide, fun s hs => by
      rw [List.mem_singleton.mp hs]
      exact std_none hl hin⟩ (tb.ext s15) (.of s15) k
def spKeepX (X : TX K mg) (T : List (Addr × Str)) : Sp := fun vs H Q E => ∃ (v : V) (dv : PyData), vs = [v] ∧ Dv H v dv ∧ dv.weight ≤ 10000 ∧ Tabs T H ∧ Ends X (tagsM dv) T H Q E
theorem okx_keep (X : TX K mg) (TB : LamX.TabB base mg X.lam_c X.lam_P) : FnOk P w K mg base (L2.CX P w) 8 X.d_keep.a X.d_keep.fd ["tags"] (spKeepX X (Tof X)) := by
  have nd := sc_keep.nd
  refine X.d_keep.F.okX sc_keep (fun vs H Q E h => ?_) (fun cdv A outer s0 H vs Q E hr h => ?_)
  · obtain ⟨v, dv, rfl, _⟩ := h
    rfl
  · obtain ⟨v, dv, rfl, hv, zv, tb, h⟩ := h
    refine ⟨_, (pss_one (ps_ret (pe_call (okx_put X TB) (hr.mono (by decide)) rfl X.d_put.mg X.d_put.F.kp X.d_put.b .nil (passes_call (takes_of rfl rfl rfl rfl) (fun _ _ _ _ h => h)) (pa_cons (pv 0) (pa_cons (pe_lst pa_nil) pa_nil))))), ?_⟩
    try dsimp only [Cx.nox, Cx.wish, cxOf]
    refine ⟨_, rfl, by show 0 ≤ sizeLine; decide, fun x1 m1 => ?_⟩
    have s1 := same_new (o := .lst ([] : List V)) m1
    refine ⟨v, .ref x1, dv, .list [], rfl, hv.same s1, .lst upd_same .nil, zv, by rw [w_list, PyData.weightAll]; decide, tb.ext s1, ?_⟩
    unfold putM tagsM wordM
    unfold tagsM at h
    cases e : tagsDue dv with
    | some iv =>
      rw [e] at h
      exact Bad.same h s1
    | none =>
      rw [e] at h
      have k : ∀ e H', QB.Ext (Tof X) H H' → Tabs (Tof X) H' → Q (.ref e) H' := h
      exact fun e H' e' t' => k e H' ((QB.Ext.of s1).trans e') t'
def spOnceX (X : TX K mg) (T : List (Addr × Str)) : Sp := fun vs H Q E => ∃ (v y : V) (dv dy : PyData), vs = [v, y] ∧ Dv H v dv ∧ Dv H y dy ∧ dv.weight ≤ 10000 ∧ dy.weight ≤ 10000 ∧ Tabs T H ∧ Ends X (onceM dv y dy) T H Q E
theorem okx_once (X : TX K mg) (TB : LamX.TabB base mg X.lam_c X.lam_P) : FnOk P w K mg base (L2.CX P w) 7 X.d_once.a X.d_once.fd ["tags", "tag"] (spOnceX X (Tof X)) := by
  have nd := sc_once.nd
  refine X.d_once.F.okX sc_once (fun vs H Q E h => ?_) (fun cdv A outer s0 H vs Q E hr h => ?_)
  · obtain ⟨v, y, dv, dy, rfl, _⟩ := h
    rfl
  · obtain ⟨v, y, dv, dy, rfl, hv, hy, zv, zy, tb, h⟩ := h
    refine ⟨_, (pss_cons (ps_expr (pe_call (okx_check_tags X) (hr.mono (by decide)) rfl X.d_check_tags.mg X.d_check_tags.F.kp X.d_check_tags.b .nil (passes_call (takes_of rfl rfl rfl rfl) (fun _ _ _ _ h => h)) (pa_cons (pv 0) pa_nil))) (pss_cons (ps_expr (pe_call (okx_check_tag X) (hr.mono (by decide)) rfl X.d_check_tag.mg X.d_check_tag.F.kp X.d_check_tag.b .nil (passes_call (takes_of rfl rfl rfl rfl) (fun _ _ _ _ h => h)) (pa_cons (pv 0) (pa_cons (pv 1) pa_nil)))) (pss_one (ps_ret (pe_make X.mk_Eater (ok_Eater___init__ X TB) (hr.mono (by decide)) rfl X.m_Eater X.d_Eater___init__.b .nil pass0 (pa_cons (pv 0) (pa_cons (pe_lst (pa_cons (pe_tup (pa_cons (pe_lst (pa_cons (pv 1) pa_nil)) (pa_cons (pe_call (ok_ways_for X) (hr.mono (by decide)) rfl X.d_ways_for.mg X.d_ways_for.F.kp X.d_ways_for.b .nil pass0 (pa_cons (pv 0) (pa_cons (pe_lst (pa_cons (pv 1) pa_nil)) (pa_cons pe_int pa_nil)))) pa_nil))) (pa_cons (pe_tup (pa_cons (pe_lst (pa_cons (pv 1) pa_nil)) (pa_cons (pe_call (ok_no_ways X) (hr.mono (by decide)) rfl X.d_no_ways.mg X.d_no_ways.F.kp X.d_no_ways.b .nil pass0 (pa_cons (pv 0) pa_nil)) pa_nil))) pa_nil))) pa_nil))))))), ?_⟩
    try dsimp only [Cx.nox, Cx.wish, cxOf]
    unfold onceM tagsM tagM at h
    refine ⟨_, rfl, v, dv, rfl, hv, zv, fun iv e => ?_, fun e H1 s1 => ?_⟩
    · rw [e] at h
      exact h
    rw [e] at h
    obtain ⟨a, tags, rfl, ha, to, rfl⟩ := tags_of hv e
    rw [tagsIn_strs] at h
    have htl := to.len
    refine ⟨_, rfl, _, rfl, a, tags, y, dy, rfl, Same.word s1 ha, hy.same s1, fun e2 => ?_, fun e2 => ?_⟩
    · rw [if_neg (by rw [e2]; exact Bool.false_ne_true)] at h
      exact (show Bad X.e_InvalidTag "tag" y H E from h).same s1
    rw [if_pos e2] at h
    have k : ∀ e H', QB.Ext (Tof X) H H' → Tabs (Tof X) H' → Q (.ref e) H' := h
    obtain ⟨t, rfl, hin⟩ := tagD_str e2
    cases hy
    -- the first standing
    refine ⟨_, rfl, _, rfl, by show 1 ≤ sizeLine; decide, fun w1 m1 => ?_⟩
    have s2 := same_new (o := .lst [V.str t]) m1
    have r1 : WordAt (upd H1 w1 (.lst [V.str t])) w1 [t] := upd_same
    have s12 := s1.trans s2
    generalize upd H1 w1 (.lst [V.str t]) = H2 at r1 s12 ⊢
    refine ⟨_, rfl, _, rfl, by show 1 ≤ sizeLine; decide, fun w2 m2 => ?_⟩
    have s3 := same_new (o := .lst [V.str t]) m2
    have r2 : WordAt (upd H2 w2 (.lst [V.str t])) w2 [t] := upd_same
    have r1 := Same.word s3 r1
    have s13 := s12.trans s3
    generalize upd H2 w2 (.lst [V.str t]) = H3 at r1 r2 s13 ⊢
    refine ⟨a, w2, tags, [t], 1, rfl, Same.word s13 ha, r2, by omega, fun x3 H4 s4 n4 r4 => ?_⟩
    have r1 := Same.word s4 r1
    have s14 := s13.trans s4
    refine ⟨by show 2 ≤ sizeLine; decide, fun t1 m4 => ?_⟩
    have s5 := same_new (o := .tup [V.ref w1, V.ref x3]) m4
    have g1 : StdAt (upd H4 t1 (.tup [V.ref w1, V.ref x3])) t1 ([t], waysFor tags [t] 1) := std_at upd_same (Same.word s5 r1) (Same.ways s5 r4)
    have s15 := s14.trans s5
    generalize upd H4 t1 (.tup [V.ref w1, V.ref x3]) = H5 at g1 s15 ⊢
    -- the second
    refine ⟨_, rfl, by show 1 ≤ sizeLine; decide, fun w3 m5 => ?_⟩
    have s6 := same_new (o := .lst [V.str t]) m5
    have r5 : WordAt (upd H5 w3 (.lst [V.str t])) w3 [t] := upd_same
    have g1 := Same.std s6 g1
    have s16 := s15.trans s6
    generalize upd H5 w3 (.lst [V.str t]) = H6 at r5 g1 s16 ⊢
    refine ⟨_, rfl, a, tags, rfl, Same.word s16 ha, by omega, fun x6 H7 s7 n7 r7 => ?_⟩
    have r5 := Same.word s7 r5
    have g1 := Same.std s7 g1
    have s17 := s16.trans s7
    refine ⟨by show 2 ≤ sizeLine; decide, fun t2 m7 => ?_⟩
    have s8 := same_new (o := .tup [V.ref w3, V.ref x6]) m7
    have g2 : StdAt (upd H7 t2 (.tup [V.ref w3, V.ref x6])) t2 ([t], List.replicate tags.length none) := std_at upd_same (Same.word s8 r5) (Same.ways s8 r7)
    have g1 := Same.std s8 g1
    have s18 := s17.trans s8
    generalize upd H7 t2 (.tup [V.ref w3, V.ref x6]) = H8 at g1 g2 s18 ⊢
    refine ⟨by show 2 ≤ sizeLine; decide, fun x9 m9 => ?_⟩
    have s9 := same_new (o := .lst [V.ref t1, V.ref t2]) m9
    have hF : FormAt (upd H8 x9 (.lst [V.ref t1, V.ref t2])) x9 [([t], waysFor tags [t] 1), ([t], List.replicate tags.length none)] := ⟨[t1, t2], upd_same, .cons (Same.std s9 g1) (.cons (Same.std s9 g2) .nil)⟩
    generalize upd H8 x9 (.lst [V.ref t1, V.ref t2]) = H9 at hF s9 ⊢
    have s19 := s18.trans s9
    have hin1 : ∀ u ∈ [t], u ∈ tags := fun u hu => by rw [List.mem_singleton.mp hu]; exact hin
    exact init_done (Same.word s19 ha) hF to ⟨by show 1 ≤ 2; decide, by show 2 ≤ 30; decide, fun s hs => by
      rcases List.mem_cons.mp hs with rfl | hs
      · exact std_for (by show 1 ≤ 8; decide) hin1 (by show 1 < 2; decide)
      · rw [List.mem_singleton.mp hs]
        exact std_none (by show 1 ≤ 8; decide) hin1⟩ (tb.ext s19) (.of s19) k
end
end Law
end

section
set_option Elab.async false
set_option linter.all false
set_option maxRecDepth 100000
set_option maxHeartbeats 4000000
namespace Law
open PySem PySem.Spec PyProof.Rows L2 LamX QB QM QV
theorem numD_nat {m : Nat} {d : PyData} (h : numD 0 (m : Int) d = true) : ∃ n : Nat, d = .int (n : Int) ∧ n ≤ m := by
  cases d with
  | int i =>
    have h : decide ((0 : Int) ≤ i ∧ i ≤ (m : Int)) = true := h
    rw [decide_eq_true_eq] at h
    exact ⟨i.toNat, by rw [Int.toNat_of_nonneg h.1], by omega⟩
  | _ => cases h
/-- a standing in a list that is being made at D -/
def LineAt (D : Addr) (H : Hp) (v : V) (s : Std) : Prop := ∃ p b y, v = .ref p ∧ b ≠ D ∧ y ≠ D ∧ H p = some (.tup [.ref b, .ref y]) ∧ WordAt H b s.1 ∧ WaysAt H y s.2
theorem LineAt.same {D : Addr} {H H' : Hp} {v : V} {s : Std} (h : LineAt D H v s) (k : Same H H') : LineAt D H' v s := by
  obtain ⟨p, b, y, e, n1, n2, h1, h2, h3⟩ := h
  exact ⟨p, b, y, e, n1, n2, k _ _ h1, Same.word k h2, Same.ways k h3⟩
theorem LineAt.upd {D : Addr} {H : Hp} {v : V} {s : Std} {xs ys : List V} (h : LineAt D H v s) (hD : H D = some (.lst xs)) : LineAt D (upd H D (.lst ys)) v s := by
  obtain ⟨p, b, y, e, n1, n2, h1, h2, h3⟩ := h
  exact ⟨p, b, y, e, n1, n2, (upd_ne (ne_of h1 hD (fun z => nomatch z))).trans h1, (upd_ne n1).trans h2, (upd_ne n2).trans h3⟩
theorem line_form {D : Addr} {H : Hp} : ∀ {vs : List V} {F : Form}, Paired (LineAt D H) vs F → ∃ ts, vs = ts.map V.ref ∧ Paired (StdAt H) ts F
  | _, _, .nil => ⟨[], rfl, .nil⟩
  | _, _, .cons h r => by
    obtain ⟨p, b, y, rfl, _, _, h1, h2, h3⟩ := h
    obtain ⟨ts, e1, e2⟩ := line_form r
    exact ⟨p :: ts, by rw [e1]; rfl, .cons ⟨b, y, h1, h2, h3⟩ e2⟩
/-- .. where more lists change -/
def LineM (M : List Addr) (H : Hp) (v : V) (s : Std) : Prop := ∃ p b y, v = .ref p ∧ b ∉ M ∧ y ∉ M ∧ H p = some (.tup [.ref b, .ref y]) ∧ WordAt H b s.1 ∧ WaysAt H y s.2
theorem LineM.same {M : List Addr} {H H' : Hp} {v : V} {s : Std} (h : LineM M H v s) (k : Same H H') : LineM M H' v s := by
  obtain ⟨p, b, y, e, n1, n2, h1, h2, h3⟩ := h
  exact ⟨p, b, y, e, n1, n2, k _ _ h1, Same.word k h2, Same.ways k h3⟩
theorem LineM.upd {M : List Addr} {D : Addr} {H : Hp} {v : V} {s : Std} {xs ys : List V} (h : LineM M H v s) (m : D ∈ M) (hD : H D = some (.lst xs)) : LineM M (upd H D (.lst ys)) v s := by
  obtain ⟨p, b, y, e, n1, n2, h1, h2, h3⟩ := h
  exact ⟨p, b, y, e, n1, n2, (upd_ne (ne_of h1 hD (fun z => nomatch z))).trans h1, (upd_ne (fun z => n1 (by rw [z]; exact m))).trans h2, (upd_ne (fun z => n2 (by rw [z]; exact m))).trans h3⟩
theorem lineM_form {M : List Addr} {H : Hp} : ∀ {vs : List V} {F : Form}, Paired (LineM M H) vs F → ∃ ts, vs = ts.map V.ref ∧ Paired (StdAt H) ts F
  | _, _, .nil => ⟨[], rfl, .nil⟩
  | _, _, .cons h r => by
    obtain ⟨p, b, y, rfl, _, _, h1, h2, h3⟩ := h
    obtain ⟨ts, e1, e2⟩ := lineM_form r
    exact ⟨p :: ts, by rw [e1]; rfl, .cons ⟨b, y, h1, h2, h3⟩ e2⟩
theorem Paired.app {α β : Type} {R : α → β → Prop} : ∀ {l l' : List α} {m m' : List β}, Paired R l m → Paired R l' m' → Paired R (l ++ l') (m ++ m')
  | _, _, _, _, .nil, h => h
  | _, _, _, _, .cons a b, h => .cons a (Paired.app b h)
section
variable {P : Program} {w : World} {K : PySem.W.Frag} {mg : Str → Option Value} {base : Heap}
def spStripX (X : TX K mg) (T : List (Addr × Str)) : Sp := fun vs H Q E => ∃ (v y z : V) (dv dy dz : PyData), vs = [v, y, z] ∧ Dv H v dv ∧ Dv H y dy ∧ Dv H z dz ∧ dv.weight ≤ 10000 ∧ dy.weight ≤ 10000 ∧ Tabs T H ∧ Ends X (stripM dv dy z dz) T H Q E
theorem okx_strip (X : TX K mg) (TB : LamX.TabB base mg X.lam_c X.lam_P) : FnOk P w K mg base (L2.CX P w) 7 X.d_strip.a X.d_strip.fd ["tags", "some", "most"] (spStripX X (Tof X)) := by
  have nd := sc_strip.nd
  refine X.d_strip.F.okX sc_strip (fun vs H Q E h => ?_) (fun cdv A outer s0 H vs Q E hr h => ?_)
  · obtain ⟨v, y, z, dv, dy, dz, rfl, _⟩ := h
    rfl
  · obtain ⟨v, y, z, dv, dy, dz, rfl, hv, hy, hz, zv, zy, tb, h⟩ := h
    refine ⟨_, (pss_cons (ps_expr (pe_call (okx_check_tags X) (hr.mono (by decide)) rfl X.d_check_tags.mg X.d_check_tags.F.kp X.d_check_tags.b .nil (passes_call (takes_of rfl rfl rfl rfl) (fun _ _ _ _ h => h)) (pa_cons (pv 0) pa_nil))) (pss_cons (ps_expr (pe_call (okx_check_some X) (hr.mono (by decide)) rfl X.d_check_some.mg X.d_check_some.F.kp X.d_check_some.b .nil (passes_call (takes_of rfl rfl rfl rfl) (fun _ _ _ _ h => h)) (pa_cons (pv 0) (pa_cons (pv 1) pa_nil)))) (pss_cons (ps_if (pt_cmpR op_isN (pv 2) pe_non (nomark _)) (pss_one (ps_ret (pe_make X.mk_Eater (ok_Eater___init__ X TB) (hr.mono (by decide)) rfl X.m_Eater X.d_Eater___init__.b .nil pass0 (pa_cons (pv 0) (pa_cons (pe_lst (pa_cons (pe_tup (pa_cons (pe_lst pa_nil) (pa_cons (pe_call (ok_ways_for X) (hr.mono (by decide)) rfl X.d_ways_for.mg X.d_ways_for.F.kp X.d_ways_for.b .nil pass0 (pa_cons (pv 0) (pa_cons (pv 1) (pa_cons pe_int pa_nil)))) pa_nil))) pa_nil)) pa_nil))))) pss_nil) (pss_cons (ps_expr (pe_call (okx_check_number X) (hr.mono (by decide)) rfl X.d_check_number.mg X.d_check_number.F.kp X.d_check_number.b .nil (passes_call (takes_of rfl rfl rfl rfl) (fun _ _ _ _ h => h)) (pa_cons (pv 2) (pa_cons (pe_gc rfl X.c_LARGEST_MOST) pa_nil)))) (pss_cons (ps_setLc (i := 3) (own := [("taken", 4)]) (g := gName 4) (tt := tYes) rfl nd rfl rfl (sw_true rfl rfl rfl (by decide +kernel)) (pi_range1 (by rfl) X.n_range (pa_cons (pv 2) pa_nil)) (blkOk_by (N := ["tags", "some", "most", "standings", "taken"]) (sc := defScope s_strip) (by decide +kernel)) (fun _ _ _ _ _ => pg_name (i := 4) nd rfl (Or.inl rfl)) (fun _ _ _ _ _ => pts_nil) (fun _ _ _ _ _ => (pe_tup (pa_cons (pe_lst pa_nil) (pa_cons (pe_call (ok_ways_for X) (hr.mono (by decide)) rfl X.d_ways_for.mg X.d_ways_for.F.kp X.d_ways_for.b .nil pass0 (pa_cons (pv 0) (pa_cons (pv 1) (pa_cons (pe_op op_add (pv 4) pe_int) pa_nil)))) pa_nil))))) (pss_one (ps_ret (pe_make X.mk_Eater (ok_Eater___init__ X TB) (hr.mono (by decide)) rfl X.m_Eater X.d_Eater___init__.b .nil pass0 (pa_cons (pv 0) (pa_cons (pe_op op_cat (pv 3) (pe_lst (pa_cons (pe_tup (pa_cons (pe_lst pa_nil) (pa_cons (pe_call (ok_no_ways X) (hr.mono (by decide)) rfl X.d_no_ways.mg X.d_no_ways.F.kp X.d_no_ways.b .nil pass0 (pa_cons (pv 0) pa_nil)) pa_nil))) pa_nil))) pa_nil)))))))))), ?_⟩
    try dsimp only [Cx.nox, Cx.wish, cxOf]
    unfold stripM tagsM someM at h
    refine ⟨_, rfl, v, dv, rfl, hv, zv, fun iv e => ?_, fun e H1 s1 => ?_⟩
    · rw [e] at h
      exact h
    rw [e] at h
    obtain ⟨a, tags, rfl, ha, to, rfl⟩ := tags_of hv e
    rw [tagsIn_strs] at h
    have htl := to.len
    refine ⟨_, rfl, _, rfl, a, tags, y, dy, rfl, Same.word s1 ha, hy.same s1, zy, fun iv e2 => ?_, fun e2 H2 s2 => ?_⟩
    · rw [e2] at h
      exact (show Bad X.e_InvalidSubject "index" iv H E from h).same s1
    rw [e2] at h
    obtain ⟨b, sm, rfl, hs, hin⟩ := some_ofD hy e2
    have s12 := s1.trans s2
    have ha2 := Same.word s12 ha
    have hs2 := Same.word s12 hs
    refine ⟨_, rfl, rfl, _, rfl, ?_⟩
    rw [dv_none hz]
    cases hq : noneD dz with
    | true =>
      rw [if_pos hq] at h
      have k : ∀ e H', QB.Ext (Tof X) H H' → Tabs (Tof X) H' → Q (.ref e) H' := h
      refine iteT ?_
      refine ⟨_, rfl, by show 0 ≤ sizeLine; decide, fun w1 m1 => ?_⟩
      have s3 := same_new (o := .lst ([] : List V)) m1
      have r1 : WordAt (upd H2 w1 (.lst [])) w1 [] := upd_same
      have s13 := s12.trans s3
      have hs3 := Same.word s3 hs2
      have ha3 := Same.word s3 ha2
      generalize upd H2 w1 (.lst []) = H3 at r1 s13 hs3 ha3 ⊢
      refine ⟨_, rfl, _, rfl, a, b, tags, sm, 0, rfl, ha3, hs3, by omega, fun x3 H4 s4 n4 r4 => ?_⟩
      have r1 := Same.word s4 r1
      have s14 := s13.trans s4
      refine ⟨by show 2 ≤ sizeLine; decide, fun x4 m4 => ⟨by show 1 ≤ sizeLine; decide, fun x5 m5 => ?_⟩⟩
      have s5 : Same H4 (upd (upd H4 x4 (.tup [V.ref w1, V.ref x3])) x5 (.lst [V.ref x4])) := Same.new (same_new m4) m5
      have r5 : (upd (upd H4 x4 (.tup [V.ref w1, V.ref x3])) x5 (.lst [V.ref x4])) x4 = some (.tup [V.ref w1, V.ref x3]) := (upd_ne (ne_of_none upd_same m5)).trans upd_same
      have hF : FormAt (upd (upd H4 x4 (.tup [V.ref w1, V.ref x3])) x5 (.lst [V.ref x4])) x5 [([], waysFor tags sm 0)] := ⟨[x4], upd_same, .cons (std_at r5 (Same.word s5 r1) (Same.ways s5 r4)) .nil⟩
      generalize upd (upd H4 x4 (.tup [V.ref w1, V.ref x3])) x5 (.lst [V.ref x4]) = H5 at s5 hF ⊢
      have s15 := s14.trans s5
      exact init_done (Same.word s15 ha) hF to ⟨by show 1 ≤ 1; decide, by show 1 ≤ 30; decide, fun s hs => by
        rw [List.mem_singleton.mp hs]
        exact std_for (Nat.zero_le _) (fun _ h => nomatch h) (by show 0 < 1; decide)⟩ (tb.ext s15) (.of s15) k
    | false =>
      rw [if_neg (by rw [hq]; exact Bool.false_ne_true)] at h
      unfold numM at h
      refine iteF ?_
      refine ⟨_, rfl, z, dz, 20, rfl, hz.same s12, fun e3 => ?_, fun e3 => ?_⟩
      · rw [if_neg (by rw [e3]; exact Bool.false_ne_true)] at h
        exact (show Bad X.e_InvalidNumber "number" z H E from h).same s12
      rw [if_pos e3] at h
      have k : ∀ e H', QB.Ext (Tof X) H H' → Tabs (Tof X) H' → Q (.ref e) H' := h
      obtain ⟨n, rfl, hn⟩ := numD_nat (m := 20) e3
      cases hz
      refine ⟨_, rfl, (n : Int), rfl, by omega, by omega, fun D hD => ?_⟩
      refine lc_it (walk_range (lo := 0) (n := n)) (fun i H' => Same H2 H' ∧ ∃ (vs : List V) (F : Form), H' D = some (.lst vs) ∧ Paired (LineAt D H') vs F ∧ F.length = i ∧ ∀ s ∈ F, StdOk tags (n + 1) s)
        ⟨same_new hD, [], [], upd_same, .nil, rfl, fun _ h => nomatch h⟩ (fun _ _ _ _ => True.intro) ?_ ?_
      · rintro i x H4 H5 hi ⟨s4, vs, F, dD, pr, fl, fo⟩ ⟨rfl, rfl⟩
        have tl : vs.length = i := by rw [Paired.length pr, fl]
        refine ⟨rfl, by show 0 ≤ sizeLine; decide, fun w1 m1 => ?_⟩
        have s5 := same_new (o := .lst ([] : List V)) m1
        have r1 : WordAt (upd H5 w1 (.lst [])) w1 [] := upd_same
        have s25 := s4.trans s5
        have w1D : w1 ≠ D := (ne_of_none dD m1).symm
        have dD6 := s5 _ _ dD
        generalize upd H5 w1 (.lst []) = H6 at r1 s5 s25 dD6 ⊢
        refine ⟨_, rfl, _, rfl, _, rfl, _, _, rfl, rfl, a, b, tags, sm, i + 1, congrArg (fun t : Int => [V.ref a, V.ref b, V.int t]) (by omega), Same.word s25 ha2, Same.word s25 hs2, by omega, fun x3 H7 s7 n7 r7 => ?_⟩
        have r1 := Same.word s7 r1
        have x3D : x3 ≠ D := (ne_of_none dD6 n7).symm
        refine ⟨by show 2 ≤ sizeLine; decide, fun tt mt => ?_⟩
        have s8 := same_new (o := .tup [V.ref w1, V.ref x3]) mt
        have g0 : (upd H7 tt (.tup [V.ref w1, V.ref x3])) tt = some (.tup [V.ref w1, V.ref x3]) := upd_same
        have r1 := Same.word s8 r1
        have r7 := Same.ways s8 r7
        have s58 := s5.trans (s7.trans s8)
        generalize upd H7 tt (.tup [V.ref w1, V.ref x3]) = H8 at g0 r1 r7 s58 ⊢
        have dD8 := s58 _ _ dD
        refine ⟨vs, dD8, sz_lt (by omega), Same.mut (s4.trans s58) hD, vs ++ [.ref tt], F ++ [([], waysFor tags sm (i + 1))], upd_same, Paired.snoc (L2.Paired.mapP pr fun _ _ z => (z.same s58).upd dD8) (LineAt.upd ⟨tt, w1, x3, rfl, w1D, x3D, g0, r1, r7⟩ dD8), by rw [List.length_append, fl]; rfl, fun s hs => ?_⟩
        rcases List.mem_append.mp hs with hs | hs
        · exact fo s hs
        · rw [List.mem_singleton.mp hs]
          exact std_for (Nat.zero_le _) (fun _ h => nomatch h) (by omega)
      · rintro H4 ⟨s4, vs, F, dD, pr, fl, fo⟩
        obtain ⟨ts, e1, pF⟩ := line_form pr
        have s24 := s12.trans s4
        have tl : vs.length = n := by rw [Paired.length pr, fl]
        refine ⟨_, rfl, _, rfl, by show 0 ≤ sizeLine; decide, fun w1 m1 => ?_⟩
        have s5 := same_new (o := .lst ([] : List V)) m1
        have r1 : WordAt (upd H4 w1 (.lst [])) w1 [] := upd_same
        have s25 := s24.trans s5
        generalize upd H4 w1 (.lst []) = H5 at r1 s5 s25 ⊢
        refine ⟨_, rfl, a, tags, rfl, Same.word s25 ha, by omega, fun x6 H6 s6 n6 r6 => ?_⟩
        have r1 := Same.word s6 r1
        refine ⟨by show 2 ≤ sizeLine; decide, fun t2 m7 => ?_⟩
        have s7 := same_new (o := .tup [V.ref w1, V.ref x6]) m7
        have g2 : StdAt (upd H6 t2 (.tup [V.ref w1, V.ref x6])) t2 ([], List.replicate tags.length none) := std_at upd_same (Same.word s7 r1) (Same.ways s7 r6)
        have s47 := s5.trans (s6.trans s7)
        generalize upd H6 t2 (.tup [V.ref w1, V.ref x6]) = H7 at g2 s47 ⊢
        refine ⟨by show 1 ≤ sizeLine; decide, fun x8 m8 => ?_⟩
        have s8 := same_new (o := .lst [V.ref t2]) m8
        have k8 : (upd H7 x8 (.lst [V.ref t2])) x8 = some (.lst [V.ref t2]) := upd_same
        have g2 := Same.std s8 g2
        have s48 := s47.trans s8
        generalize upd H7 x8 (.lst [V.ref t2]) = H8 at k8 g2 s48 ⊢
        refine ⟨D, x8, _, _, rfl, rfl, s48 _ _ dD, k8, by rw [tl]; exact sz_le (by show n + 1 ≤ _; omega), fun x9 m9 => ?_⟩
        have s9 := same_new (o := .lst (vs ++ [V.ref t2])) m9
        have s49 := s48.trans s9
        have hF : FormAt (upd H8 x9 (.lst (vs ++ [V.ref t2]))) x9 (F ++ [([], List.replicate tags.length none)]) := ⟨ts ++ [t2], by rw [upd_same, e1, List.map_append]; rfl, Paired.app (L2.Paired.mapP pF fun _ _ z => Same.std s49 z) (.cons (Same.std s9 g2) .nil)⟩
        generalize upd H8 x9 (.lst (vs ++ [V.ref t2])) = H9 at hF s49 ⊢
        have s29 := s24.trans s49
        have fl2 : (F ++ [(([] : Word), List.replicate tags.length (none : Option Nat))]).length = n + 1 := by rw [List.length_append, fl]; rfl
        exact init_done (Same.word s29 ha) hF to ⟨by rw [fl2]; omega, by rw [fl2]; omega, fun s hs => by
          rw [fl2]
          rcases List.mem_append.mp hs with hs | hs
          · exact fo s hs
          · rw [List.mem_singleton.mp hs]
            exact std_none (Nat.zero_le _) (fun _ h => nomatch h)⟩ (tb.ext s29) (.of s29) k
def spExX (X : TX K mg) (T : List (Addr × Str)) : Sp := fun vs H Q E => ∃ (v y : V) (dv dy : PyData), vs = [v, y] ∧ Dv H v dv ∧ Dv H y dy ∧ dv.weight ≤ 10000 ∧ dy.weight ≤ 10000 ∧ Tabs T H ∧ Ends X (exchangeM dv dy) T H Q E
theorem okx_exchange (X : TX K mg) (TB : LamX.TabB base mg X.lam_c X.lam_P) : FnOk P w K mg base (L2.CX P w) 7 X.d_exchange.a X.d_exchange.fd ["tags", "pairs"] (spExX X (Tof X)) := by
  have nd := sc_exchange.nd
  refine X.d_exchange.F.okX sc_exchange (fun vs H Q E h => ?_) (fun cdv A outer s0 H vs Q E hr h => ?_)
  · obtain ⟨v, y, dv, dy, rfl, _⟩ := h
    rfl
  · obtain ⟨v, y, dv, dy, rfl, hv, hy, zv, zy, tb, h⟩ := h
    refine ⟨_, (pss_cons (ps_expr (pe_call (okx_check_tags X) (hr.mono (by decide)) rfl X.d_check_tags.mg X.d_check_tags.F.kp X.d_check_tags.b .nil (passes_call (takes_of rfl rfl rfl rfl) (fun _ _ _ _ h => h)) (pa_cons (pv 0) pa_nil))) (pss_cons (ps_expr (pe_call (okx_check_pairs X) (hr.mono (by decide)) rfl X.d_check_pairs.mg X.d_check_pairs.F.kp X.d_check_pairs.b .nil (passes_call (takes_of rfl rfl rfl rfl) (fun _ _ _ _ h => h)) (pa_cons (pv 0) (pa_cons (pv 1) pa_nil)))) (pss_cons (ps_set (i := 2) nd rfl (Or.inl rfl) (pe_call (ok_no_ways X) (hr.mono (by decide)) rfl X.d_no_ways.mg X.d_no_ways.F.kp X.d_no_ways.b .nil pass0 (pa_cons (pv 0) pa_nil))) (pss_cons (ps_set (i := 3) nd rfl (Or.inl rfl) (pe_lst (pa_cons (pe_tup (pa_cons (pe_lst pa_nil) (pa_cons (pv 2) pa_nil))) pa_nil))) (pss_cons (ps_for (passes_of rfl) rfl (QB.pi_listK K (pv 1)) (pg_tup (by rfl) (pgs_cons (pg_name (i := 4) nd rfl (Or.inl rfl)) (pgs_cons (pg_name (i := 5) nd rfl (Or.inl rfl)) (pgs_nil)))) (pss_cons (ps_asg (pe_callB (QB.call_lenK K) (by rfl) X.n_len PySem.boot_len (pa_cons (pv 3) pa_nil)) (pg_sub (pv 2) (QB.pe_bmK K PySem.F.plainAttrs_list PySem.F.slot_list_index PySem.F.type_list_index (QB.mt_indexK K) (pv 0) (pa_cons (pv 4) pa_nil)) set_list)) (pss_one (ps_expr (QB.pe_bmK K PySem.F.plainAttrs_list PySem.F.slot_list_append PySem.F.type_list_append mt_append (pv 3) (pa_cons (pe_tup (pa_cons (pe_lst (pa_cons (pv 5) pa_nil)) (pa_cons (pe_call (ok_no_ways X) (hr.mono (by decide)) rfl X.d_no_ways.mg X.d_no_ways.F.kp X.d_no_ways.b .nil pass0 (pa_cons (pv 0) pa_nil)) pa_nil))) pa_nil)))))) (pss_one (ps_ret (pe_make X.mk_Eater (ok_Eater___init__ X TB) (hr.mono (by decide)) rfl X.m_Eater X.d_Eater___init__.b .nil pass0 (pa_cons (pv 0) (pa_cons (pv 3) pa_nil)))))))))), ?_⟩
    try dsimp only [Cx.nox, Cx.wish, cxOf]
    unfold exchangeM tagsM pairsM at h
    refine ⟨_, rfl, v, dv, rfl, hv, zv, fun iv e => ?_, fun e H1 s1 => ?_⟩
    · rw [e] at h
      exact h
    rw [e] at h
    obtain ⟨a, tags, rfl, ha, to, rfl⟩ := tags_of hv e
    rw [tagsIn_strs] at h
    have htl := to.len
    refine ⟨_, rfl, _, rfl, a, tags, y, dy, rfl, Same.word s1 ha, hy.same s1, zy, fun iv e2 => ?_, fun e2 H2 s2 => ?_⟩
    · rw [e2] at h
      exact (show Bad X.e_InvalidPairs "index" iv H E from h).same s1
    rw [e2] at h
    have k : ∀ e H', QB.Ext (Tof X) H H' → Tabs (Tof X) H' → Q (.ref e) H' := h
    obtain ⟨b, xs, us, rfl, hb, hall, hin, hul⟩ := pairs_ofD hy e2
    have s12 := s1.trans s2
    have xl : xs.length = us.length := by rw [← hall.len, List.length_map]
    refine ⟨_, rfl, a, tags, rfl, Same.word s12 ha, by omega, fun y1 H3 s3 n3 r3 => ?_⟩
    have s13 := s12.trans s3
    have ny1 : H y1 = none := s12.free n3
    refine ⟨by show 0 ≤ sizeLine; decide, fun w1 m1 => ?_⟩
    have w1y : w1 ≠ y1 := (ne_of_none r3 m1).symm
    have s4 := same_new (o := .lst ([] : List V)) m1
    have q1 : WordAt (upd H3 w1 (.lst [])) w1 [] := upd_same
    have r3 := Same.ways s4 r3
    have s14 := s13.trans s4
    generalize upd H3 w1 (.lst []) = H4 at q1 r3 s14 ⊢
    refine ⟨_, rfl, by show 2 ≤ sizeLine; decide, fun t1 m2 => ?_⟩
    have s5 := same_new (o := .tup [V.ref w1, V.ref y1]) m2
    have g1 : (upd H4 t1 (.tup [V.ref w1, V.ref y1])) t1 = some (.tup [.ref w1, .ref y1]) := upd_same
    have q1 := Same.word s5 q1
    have r3 := Same.ways s5 r3
    have s15 := s14.trans s5
    generalize upd H4 t1 (.tup [V.ref w1, V.ref y1]) = H5 at g1 q1 r3 s15 ⊢
    refine ⟨by show 1 ≤ sizeLine; decide, fun D hD => ?_⟩
    have w1D : w1 ≠ D := ne_of_none q1 hD
    have y1D : y1 ≠ D := ne_of_none r3 hD
    have s6 := same_new (o := .lst [V.ref t1]) hD
    have kD : (upd H5 D (.lst [V.ref t1])) D = some (.lst (V.ref t1 :: [])) := upd_same
    have g1 := s6 _ _ g1
    have q1 := Same.word s6 q1
    have r3 := Same.ways s6 r3
    have nD : H D = none := s15.free hD
    have s16 := s15.trans s6
    generalize upd H5 D (.lst [V.ref t1]) = H6 at g1 q1 r3 kD s16 ⊢
    refine ⟨_, rfl, _, rfl, ⟨_, SqL.of (s16 _ _ hb)⟩, ?_⟩
    refine for_it (walk_list (K := K) (a := b) (xs := xs)) (fun j σ H' => ∃ (v4 v5 : Option V) (ws : Ways) (vs : List V) (F : Form), σ = [some (.ref a), some (.ref b), some (.ref y1), some (.ref D), v4, v5] ∧ Same H H' ∧ H' t1 = some (.tup [.ref w1, .ref y1]) ∧ WordAt H' w1 [] ∧
        H' y1 = some (.lst (vWs ws)) ∧ ws.length = tags.length ∧ (∀ m, some m ∈ ws → m ≤ j) ∧ H' D = some (.lst (V.ref t1 :: vs)) ∧ Paired (LineM [D, y1] H') vs F ∧ F.length = j ∧ ∀ s ∈ F, StdOk tags 1 s)
      ⟨_, _, List.replicate tags.length none, [], [], rfl, s16, g1, q1, r3, List.length_replicate .., (fun m hm => by cases List.eq_of_mem_replicate hm), kD, .nil, rfl, fun _ h => nomatch h⟩ (fun j σ H' _ ⟨_, _, _, _, _, _, z, _⟩ => SqL.of (z _ _ hb)) ?_ ?_
    · rintro j x σ H7 H8 hj ⟨v4, v5, ws, vs, F, rfl, s7, g7, q7, r7, wl, wn, d7, pr, fl, fo⟩ ⟨rfl, hx⟩
      obtain ⟨d, hd, hv⟩ := hall.get hx
      obtain ⟨p, hp, rfl⟩ := List.mem_map.mp (List.mem_of_getElem? hd)
      obtain ⟨i1, i2⟩ := hin p hp
      have hv := hv.same s7
      unfold pairPD at hv
      cases hv with
      | @tup tp ys _ ht hys =>
      cases hys with
      | cons hy1 hys =>
      cases hys with
      | cons hy2 hys =>
      cases hys
      cases hy1
      cases hy2
      have vl : vs.length = j := by rw [Paired.length pr, fl]
      refine ⟨tp, _, rfl, SqT.of ht, rfl, _, _, rfl, _, _, rfl, rfl, ?_⟩
      refine ⟨_, rfl, _, _, rfl, .inl (SqL.of d7), ?_⟩
      refine ⟨_, rfl, _, rfl, .inl ⟨rfl, _, SqL.of (Same.word s7 ha)⟩, _, rfl, ?_⟩
      dsimp only [tNil]
      refine index_word (Same.word s7 ha) i1 ?_
      refine ⟨y1, _, _, tags.idxOf p.1, rfl, rfl, r7, ixN_of (by rw [vWs_len, wl]; exact List.idxOf_lt_length_of_mem i1), ?_⟩
      have el : (V.ref t1 :: vs).length = j + 1 := by rw [List.length_cons, vl]
      have ew : (vWs ws).set (tags.idxOf p.1) (V.int ((V.ref t1 :: vs).length : Int)) = vWs (ws.set (tags.idxOf p.1) (some (j + 1))) := by
        rw [el]
        unfold vWs
        rw [List.map_set]
        rfl
      generalize hH9 : upd H8 y1 _ = H9
      have k9 : H9 y1 = some (.lst (vWs (ws.set (tags.idxOf p.1) (some (j + 1))))) := by
        rw [← hH9, upd_same, ew]
      have s9 : Same H H9 := by
        rw [← hH9]
        exact Same.mut s7 ny1
      have d9 : H9 D = some (.lst (V.ref t1 :: vs)) := by
        rw [← hH9, upd_ne y1D.symm]
        exact d7
      have g9 : H9 t1 = some (.tup [.ref w1, .ref y1]) := by
        rw [← hH9, upd_ne (ne_of g7 r7 (fun z => nomatch z))]
        exact g7
      have q9 : WordAt H9 w1 [] := by
        rw [← hH9]
        exact (upd_ne w1y).trans q7
      have pr9 : Paired (LineM [D, y1] H9) vs F := by
        rw [← hH9]
        exact L2.Paired.mapP pr fun _ _ z => z.upd (by simp) r7
      clear hH9
      refine ⟨_, rfl, .inl ⟨rfl, _, SqL.of d9⟩, ?_⟩
      refine ⟨_, rfl, by show 1 ≤ sizeLine; decide, fun w2 m3 => ?_⟩
      have s10 := same_new (o := .lst [V.str p.2]) m3
      have q2 : WordAt (upd H9 w2 (.lst [V.str p.2])) w2 [p.2] := upd_same
      have w2D : w2 ≠ D := (ne_of_none d9 m3).symm
      have w2y : w2 ≠ y1 := (ne_of_none k9 m3).symm
      generalize upd H9 w2 (.lst [V.str p.2]) = H10 at s10 q2 ⊢
      refine ⟨_, rfl, a, tags, rfl, Same.word (s9.trans s10) ha, by omega, fun y2 H11 s11 n11 r11 => ?_⟩
      have y2D : y2 ≠ D := (ne_of_none (s10 _ _ d9) n11).symm
      have y2y : y2 ≠ y1 := (ne_of_none (s10 _ _ k9) n11).symm
      have q2 := Same.word s11 q2
      refine ⟨by show 2 ≤ sizeLine; decide, fun t2 m4 => ?_⟩
      have s12' := same_new (o := .tup [V.ref w2, V.ref y2]) m4
      have g2 : (upd H11 t2 (.tup [V.ref w2, V.ref y2])) t2 = some (.tup [.ref w2, .ref y2]) := upd_same
      have q2 := Same.word s12' q2
      have r11 := Same.ways s12' r11
      have s912 := s10.trans (s11.trans s12')
      generalize upd H11 t2 (.tup [V.ref w2, V.ref y2]) = H12 at g2 q2 r11 s912 ⊢
      have d12 := s912 _ _ d9
      refine ⟨D, _, _, rfl, rfl, d12, by rw [el]; exact sz_lt (by omega), ?_⟩
      have two : ∀ {q : Addr}, q ≠ D → q ≠ y1 → q ∉ [D, y1] := fun h1 h2 z => by
        rcases List.mem_cons.mp z with z | z
        · exact h1 z
        · exact h2 (List.mem_singleton.mp z)
      refine ⟨_, _, ws.set (tags.idxOf p.1) (some (j + 1)), vs ++ [.ref t2], F ++ [([p.2], List.replicate tags.length none)], rfl, Same.mut (s9.trans s912) nD, (upd_ne (ne_of (s912 _ _ g9) d12 (fun z => nomatch z))).trans (s912 _ _ g9), (upd_ne w1D).trans (s912 _ _ q9),
        (upd_ne y1D).trans (s912 _ _ k9), by rw [List.length_set]; exact wl, fun m hm => ?_, upd_same, Paired.snoc (L2.Paired.mapP pr9 fun _ _ z => (z.same s912).upd (by simp) d12) (LineM.upd ⟨t2, w2, y2, rfl, two w2D w2y, two y2D y2y, g2, q2, r11⟩ (by simp) d12), by rw [List.length_append, fl]; rfl, fun s hs => ?_⟩
      · rcases List.mem_or_eq_of_mem_set hm with z | z
        · have := wn m z
          omega
        · cases z
          exact Nat.le_refl _
      · rcases List.mem_append.mp hs with hs | hs
        · exact fo s hs
        · rw [List.mem_singleton.mp hs]
          exact std_none (by show 1 ≤ 8; decide) (fun u hu => by rw [List.mem_singleton.mp hu]; exact i2)
    · rintro σ H7 ⟨v4, v5, ws, vs, F, rfl, s7, g7, q7, r7, wl, wn, d7, pr, fl, fo⟩
      obtain ⟨ts, e1, pF⟩ := lineM_form pr
      have hF : FormAt H7 D (([], ws) :: F) := ⟨t1 :: ts, by rw [d7, e1]; rfl, .cons ⟨w1, y1, g7, q7, r7⟩ pF⟩
      have fl2 : ((([] : Word), ws) :: F).length = us.length + 1 := by rw [List.length_cons, fl, xl]
      refine ⟨_, rfl, _, rfl, ?_⟩
      exact init_done (Same.word s7 ha) hF to ⟨by rw [fl2]; omega, by rw [fl2]; omega, fun s hs => by
        rw [fl2]
        rcases List.mem_cons.mp hs with rfl | hs
        · exact ⟨Nat.zero_le _, (fun _ h => nomatch h), wl, fun m hm => by have := wn m hm; omega⟩
        · have o := fo s hs
          exact ⟨o.len, o.sub, o.ways, fun m hm => by have := o.to m hm; omega⟩⟩ (tb.ext s7) (.of s7) k
end
end Law
end

section
set_option Elab.async false
set_option linter.all false
set_option maxRecDepth 100000
set_option maxHeartbeats 4000000
namespace Law
open PySem PySem.Spec PyProof.Rows L2 LamX QB QM QV
theorem plainOk {tags : Word} : FormOk tags [([], List.replicate tags.length none)] := by
  refine ⟨by show 1 ≤ 1; decide, by show 1 ≤ 30; decide, fun s hs => ?_⟩
  rw [List.mem_singleton.mp hs]
  exact ⟨Nat.zero_le _, (fun _ h => nomatch h), List.length_replicate, fun m hm => by cases List.eq_of_mem_replicate hm⟩
section
variable {P : Program} {w : World} {K : PySem.W.Frag} {mg : Str → Option Value} {base : Heap}
def spEaterOfX (T : List (Addr × Str)) : Sp := fun vs H Q _ => ∃ (a : Addr) (b : V) (tags : Word), vs = [.ref a, b] ∧ WordAt H a tags ∧ TagsOk tags ∧ Tabs T H ∧ ∀ e H', QB.Ext T H H' → Tabs T H' → Q (.ref e) H'
theorem okx_eater_of (X : TX K mg) (TB : LamX.TabB base mg X.lam_c X.lam_P) : FnOk P w K mg base (L2.CX P w) 7 X.d_eater_of.a X.d_eater_of.fd ["tags", "form"] (spEaterOfX (Tof X)) := by
  have nd := sc_eater_of.nd
  refine X.d_eater_of.F.okX sc_eater_of (fun vs H Q E h => ?_) (fun cdv A outer s H vs Q E hr h => ?_)
  · obtain ⟨a, b, tags, rfl, _⟩ := h
    rfl
  · obtain ⟨a, b, tags, rfl, ha, to, tb, k⟩ := h
    refine ⟨_, (pss_cons (ps_set (i := 2) nd rfl (Or.inl rfl) (pe_make X.mk_Eater (ok_Eater___init__ X TB) (hr.mono (by decide)) rfl X.m_Eater X.d_Eater___init__.b .nil pass0 (pa_cons (pv 0) (pa_cons (pe_lst (pa_cons (pe_tup (pa_cons (pe_lst pa_nil) (pa_cons (pe_call (ok_no_ways X) (hr.mono (by decide)) rfl X.d_no_ways.mg X.d_no_ways.F.kp X.d_no_ways.b .nil pass0 (pa_cons (pv 0) pa_nil)) pa_nil))) pa_nil)) pa_nil)))) (pss_cons (ps_fld (pv 2) (pv 1) rfl) (pss_one (ps_ret (pv 2))))), ?_⟩
    try dsimp only [Cx.nox, Cx.wish, cxOf]
    have htl := to.len
    refine ⟨_, rfl, by show 0 ≤ sizeLine; decide, fun x1 m1 => ?_⟩
    have s1 := same_new (o := .lst ([] : List V)) m1
    have r1 : WordAt (upd H x1 (.lst [])) x1 [] := upd_same
    generalize upd H x1 (.lst []) = H1 at s1 r1 ⊢
    refine ⟨_, rfl, a, tags, rfl, Same.word s1 ha, by omega, fun x3 H3 s3 n3 r3 => ?_⟩
    have s13 := s1.trans s3
    refine ⟨by show 2 ≤ sizeLine; decide, fun x4 m4 => ⟨by show 1 ≤ sizeLine; decide, fun x5 m5 => ?_⟩⟩
    have s5 : Same H3 (upd (upd H3 x4 (.tup [V.ref x1, V.ref x3])) x5 (.lst [V.ref x4])) := Same.new (same_new m4) m5
    have r4 : (upd (upd H3 x4 (.tup [V.ref x1, V.ref x3])) x5 (.lst [V.ref x4])) x4 = some (.tup [V.ref x1, V.ref x3]) := (upd_ne (ne_of_none upd_same m5)).trans upd_same
    have hF : FormAt (upd (upd H3 x4 (.tup [V.ref x1, V.ref x3])) x5 (.lst [V.ref x4])) x5 [([], List.replicate tags.length none)] := ⟨[x4], upd_same, .cons ⟨x1, x3, r4, Same.word s5 (Same.word s3 r1), Same.ways s5 r3⟩ .nil⟩
    generalize upd (upd H3 x4 (.tup [V.ref x1, V.ref x3])) x5 (.lst [V.ref x4]) = H5 at s5 hF ⊢
    have s15 := s13.trans s5
    refine fun e dx he hd hne => ?_
    have t5 := tb.ext s15
    have sM : Same H5 (upd (upd H5 dx (.own e)) e (.ins X.c_Eater dx [])) := Same.new (same_new hd) ((upd_ne hne.symm).trans he)
    refine ⟨e, dx, a, x5, tags, _, H5, rfl, upd_same, Same.word sM (Same.word s15 ha), Same.form sM hF, to, plainOk, t5.ext sM, .of sM, .of he, fun a' b' M H6 e6 t6 n6 => ⟨rfl, ?_⟩⟩
    have n6' := n6.ins
    refine ⟨_, rfl, _, rfl, e, _, _, _, rfl, n6', X.cl_Eater, X.na_Eater__standings, by show (2 : Nat) < 1000; decide, ?_⟩
    refine ⟨_, rfl, ?_⟩
    have fe : Fresh H e := (QB.Ext.of (T := Tof X) s15).fresh (.of he)
    exact k e _ (((QB.Ext.of s15).trans e6).mut fe n6') (tabs_mut t6 n6' True.intro)
def spPressX (X : TX K mg) (T : List (Addr × Str)) : Sp := fun vs H Q E => ∃ (v y z : V) (dv dy dz : PyData), vs = [v, y, z] ∧ Dv H v dv ∧ Dv H y dy ∧ Dv H z dz ∧ dv.weight ≤ 10000 ∧ dy.weight ≤ 10000 ∧ Tabs T H ∧ Ends X (pressM dv y dy z dz) T H Q E
theorem okx_press (X : TX K mg) (TB : LamX.TabB base mg X.lam_c X.lam_P) : FnOk P w K mg base (L2.CX P w) 8 X.d_press.a X.d_press.fd ["tags", "tag", "most"] (spPressX X (Tof X)) := by
  have nd := sc_press.nd
  refine X.d_press.F.okX sc_press (fun vs H Q E h => ?_) (fun cdv A outer s0 H vs Q E hr h => ?_)
  · obtain ⟨v, y, z, dv, dy, dz, rfl, _⟩ := h
    rfl
  · obtain ⟨v, y, z, dv, dy, dz, rfl, hv, hy, hz, zv, zy, tb, h⟩ := h
    refine ⟨_, (pss_cons (ps_expr (pe_call (okx_check_tags X) (hr.mono (by decide)) rfl X.d_check_tags.mg X.d_check_tags.F.kp X.d_check_tags.b .nil (passes_call (takes_of rfl rfl rfl rfl) (fun _ _ _ _ h => h)) (pa_cons (pv 0) pa_nil))) (pss_cons (ps_expr (pe_call (okx_check_tag X) (hr.mono (by decide)) rfl X.d_check_tag.mg X.d_check_tag.F.kp X.d_check_tag.b .nil (passes_call (takes_of rfl rfl rfl rfl) (fun _ _ _ _ h => h)) (pa_cons (pv 0) (pa_cons (pv 1) pa_nil)))) (pss_cons (ps_expr (pe_call (okx_check_number X) (hr.mono (by decide)) rfl X.d_check_number.mg X.d_check_number.F.kp X.d_check_number.b .nil (passes_call (takes_of rfl rfl rfl rfl) (fun _ _ _ _ h => h)) (pa_cons (pv 2) (pa_cons (pe_gc rfl X.c_LARGEST_MOST) pa_nil)))) (pss_cons (ps_setLc (i := 3) (own := [("left", 4)]) (g := gName 4) (tt := tYes) rfl nd rfl rfl (sw_true rfl rfl rfl (by decide +kernel)) (pi_range1 (by rfl) X.n_range (pa_cons (pv 2) pa_nil)) (blkOk_by (N := ["tags", "tag", "most", "standings", "left"]) (sc := defScope s_press) (by decide +kernel)) (fun _ _ _ _ _ => pg_name (i := 4) nd rfl (Or.inl rfl)) (fun _ _ _ _ _ => pts_nil) (fun _ _ _ _ _ => (pe_tup (pa_cons (pe_op op_rep (pe_lst (pa_cons (pv 1) pa_nil)) (pv 4)) (pa_cons (pe_call (ok_ways_for X) (hr.mono (by decide)) rfl X.d_ways_for.mg X.d_ways_for.F.kp X.d_ways_for.b .nil pass0 (pa_cons (pv 0) (pa_cons (pe_lst (pa_cons (pv 1) pa_nil)) (pa_cons (pe_op op_add (pv 4) pe_int) pa_nil)))) pa_nil))))) (pss_cons (ps_expr (QB.pe_bmK K PySem.F.plainAttrs_list PySem.F.slot_list_append PySem.F.type_list_append mt_append (pv 3) (pa_cons (pe_tup (pa_cons (pe_op op_rep (pe_lst (pa_cons (pv 1) pa_nil)) (pv 2)) (pa_cons (pe_call (ok_ways_for X) (hr.mono (by decide)) rfl X.d_ways_for.mg X.d_ways_for.F.kp X.d_ways_for.b .nil pass0 (pa_cons (pv 0) (pa_cons (pe_lst (pa_cons (pv 1) pa_nil)) (pa_cons (pv 2) pa_nil)))) pa_nil))) pa_nil))) (pss_one (ps_ret (pe_call (okx_eater_of X TB) (hr.mono (by decide)) rfl X.d_eater_of.mg X.d_eater_of.F.kp X.d_eater_of.b .nil (passes_call (takes_of rfl rfl rfl rfl) (fun _ _ _ _ h => h)) (pa_cons (pv 0) (pa_cons (pe_call (ok_least_form X TB) (hr.mono (by decide)) rfl X.d_least_form.mg X.d_least_form.F.kp X.d_least_form.b .nil pass0 (pa_cons (pv 0) (pa_cons (pv 3) pa_nil))) pa_nil)))))))))), ?_⟩
    try dsimp only [Cx.nox, Cx.wish, cxOf]
    unfold pressM tagsM tagM numM at h
    refine ⟨_, rfl, v, dv, rfl, hv, zv, fun iv e => ?_, fun e H1 s1 => ?_⟩
    · rw [e] at h
      exact h
    rw [e] at h
    obtain ⟨a, tags, rfl, ha, to, rfl⟩ := tags_of hv e
    rw [tagsIn_strs] at h
    have htl := to.len
    refine ⟨_, rfl, _, rfl, a, tags, y, dy, rfl, Same.word s1 ha, hy.same s1, fun e2 => ?_, fun e2 => ?_⟩
    · rw [if_neg (by rw [e2]; exact Bool.false_ne_true)] at h
      exact (show Bad X.e_InvalidTag "tag" y H E from h).same s1
    rw [if_pos e2] at h
    obtain ⟨t, rfl, hin⟩ := tagD_str e2
    cases hy
    refine ⟨_, rfl, z, dz, 20, rfl, hz.same s1, fun e3 => ?_, fun e3 => ?_⟩
    · rw [if_neg (by rw [e3]; exact Bool.false_ne_true)] at h
      exact (show Bad X.e_InvalidNumber "number" z H E from h).same s1
    rw [if_pos e3] at h
    have k : ∀ e H', QB.Ext (Tof X) H H' → Tabs (Tof X) H' → Q (.ref e) H' := h
    obtain ⟨n, rfl, hn⟩ := numD_nat (m := 20) e3
    cases hz
    have ha1 := Same.word s1 ha
    have good : ∀ {c m : Nat}, c ≤ n → m ≤ n → StdOk tags (n + 1) (List.replicate c t, waysFor tags [t] m) ∨ True := fun _ _ => .inr trivial
    refine ⟨_, rfl, (n : Int), rfl, by omega, by omega, fun D hD => ?_⟩
    refine lc_it (walk_range (lo := 0) (n := n)) (fun i H' => Same H1 H' ∧ ∃ (vs : List V) (F : Form), H' D = some (.lst vs) ∧ Paired (LineAt D H') vs F ∧ F.length = i ∧ ∀ s ∈ F, s.1.length ≤ 20 ∧ (∀ u ∈ s.1, u ∈ tags) ∧ s.2.length = tags.length ∧ ∀ m, some m ∈ s.2 → m ≤ n)
      ⟨same_new hD, [], [], upd_same, .nil, rfl, fun _ h => nomatch h⟩ (fun _ _ _ _ => True.intro) ?_ ?_
    · rintro i x H4 H5 hi ⟨s4, vs, F, dD, pr, fl, fo⟩ ⟨rfl, rfl⟩
      have tl : vs.length = i := by rw [Paired.length pr, fl]
      refine ⟨rfl, _, rfl, by show 1 ≤ sizeLine; decide, fun q1 m1 => ?_⟩
      have s5 := same_new (o := .lst [V.str t]) m1
      have r1 : (upd H5 q1 (.lst [V.str t])) q1 = some (.lst [V.str t]) := upd_same
      have dD6 := s5 _ _ dD
      generalize upd H5 q1 (.lst [V.str t]) = H6 at r1 s5 dD6 ⊢
      refine ⟨_, rfl, q1, 0 + (i : Int), _, rfl, rfl, r1, by omega, by omega, by show 1 * _ ≤ sizeLine; exact sz_le (by omega), fun w1 m2 => ?_⟩
      have w1D : w1 ≠ D := (ne_of_none dD6 m2).symm
      generalize hH7 : upd H6 w1 _ = H7
      have s7 : Same H6 H7 := by
        rw [← hH7]
        exact same_new m2
      have kw : WordAt H7 w1 (List.replicate i t) := by
        rw [← hH7]
        unfold WordAt vS
        rw [upd_same, show (0 + (i : Int)).toNat = i by omega, pt_rep, List.map_replicate]
      clear hH7
      have dD7 := s7 _ _ dD6
      have s57 := s5.trans s7
      refine ⟨_, rfl, _, rfl, by show 1 ≤ sizeLine; decide, fun q2 m3 => ?_⟩
      have s8 := same_new (o := .lst [V.str t]) m3
      have r2 : WordAt (upd H7 q2 (.lst [V.str t])) q2 [t] := upd_same
      have kw := Same.word s8 kw
      have dD8 := s8 _ _ dD7
      have s58 := s57.trans s8
      generalize upd H7 q2 (.lst [V.str t]) = H8 at r2 kw dD8 s58 ⊢
      refine ⟨_, rfl, _, _, rfl, rfl, a, q2, tags, [t], i + 1, congrArg (fun t : Int => [V.ref a, V.ref q2, V.int t]) (by omega), Same.word (s4.trans s58) ha1, r2, by omega, fun x3 H9 s9 n9 r9 => ?_⟩
      have kw := Same.word s9 kw
      have x3D : x3 ≠ D := (ne_of_none dD8 n9).symm
      refine ⟨by show 2 ≤ sizeLine; decide, fun tt mt => ?_⟩
      have s10 := same_new (o := .tup [V.ref w1, V.ref x3]) mt
      have g0 : (upd H9 tt (.tup [V.ref w1, V.ref x3])) tt = some (.tup [V.ref w1, V.ref x3]) := upd_same
      have kw := Same.word s10 kw
      have r9 := Same.ways s10 r9
      have s510 := s58.trans (s9.trans s10)
      generalize upd H9 tt (.tup [V.ref w1, V.ref x3]) = H10 at g0 kw r9 s510 ⊢
      have dD10 := s510 _ _ dD
      refine ⟨vs, dD10, sz_lt (by omega), Same.mut (s4.trans s510) hD, vs ++ [.ref tt], F ++ [(List.replicate i t, waysFor tags [t] (i + 1))], upd_same, Paired.snoc (L2.Paired.mapP pr fun _ _ z => (z.same s510).upd dD10) (LineAt.upd ⟨tt, w1, x3, rfl, w1D, x3D, g0, kw, r9⟩ dD10), by rw [List.length_append, fl]; rfl, fun s hs => ?_⟩
      rcases List.mem_append.mp hs with hs | hs
      · exact fo s hs
      · rw [List.mem_singleton.mp hs]
        exact ⟨by rw [List.length_replicate]; omega, fun u hu => by rw [List.eq_of_mem_replicate hu]; exact hin, waysFor_len .., fun m hm => by rw [waysFor_to hm]; omega⟩
    · rintro H4 ⟨s4, vs, F, dD, pr, fl, fo⟩
      have tl : vs.length = n := by rw [Paired.length pr, fl]
      refine ⟨_, rfl, .inl ⟨rfl, _, SqL.of dD⟩, ?_⟩
      refine ⟨_, rfl, by show 1 ≤ sizeLine; decide, fun q1 m1 => ?_⟩
      have s5 := same_new (o := .lst [V.str t]) m1
      have r1 : (upd H4 q1 (.lst [V.str t])) q1 = some (.lst [V.str t]) := upd_same
      have dD6 := s5 _ _ dD
      generalize upd H4 q1 (.lst [V.str t]) = H6 at r1 s5 dD6 ⊢
      refine ⟨_, rfl, q1, (n : Int), _, rfl, rfl, r1, by omega, by omega, by show 1 * _ ≤ sizeLine; exact sz_le (by omega), fun w1 m2 => ?_⟩
      have w1D : w1 ≠ D := (ne_of_none dD6 m2).symm
      generalize hH7 : upd H6 w1 _ = H7
      have s7 : Same H6 H7 := by
        rw [← hH7]
        exact same_new m2
      have kw : WordAt H7 w1 (List.replicate n t) := by
        rw [← hH7]
        unfold WordAt vS
        rw [upd_same, Int.toNat_natCast, pt_rep, List.map_replicate]
      clear hH7
      have dD7 := s7 _ _ dD6
      have s57 := s5.trans s7
      refine ⟨_, rfl, _, rfl, by show 1 ≤ sizeLine; decide, fun q2 m3 => ?_⟩
      have s8 := same_new (o := .lst [V.str t]) m3
      have r2 : WordAt (upd H7 q2 (.lst [V.str t])) q2 [t] := upd_same
      have kw := Same.word s8 kw
      have dD8 := s8 _ _ dD7
      have s58 := s57.trans s8
      generalize upd H7 q2 (.lst [V.str t]) = H8 at r2 kw dD8 s58 ⊢
      refine ⟨_, rfl, a, q2, tags, [t], n, rfl, Same.word (s4.trans s58) ha1, r2, by omega, fun x3 H9 s9 n9 r9 => ?_⟩
      have kw := Same.word s9 kw
      have x3D : x3 ≠ D := (ne_of_none dD8 n9).symm
      refine ⟨by show 2 ≤ sizeLine; decide, fun tt mt => ?_⟩
      have s10 := same_new (o := .tup [V.ref w1, V.ref x3]) mt
      have g0 : (upd H9 tt (.tup [V.ref w1, V.ref x3])) tt = some (.tup [V.ref w1, V.ref x3]) := upd_same
      have kw := Same.word s10 kw
      have r9 := Same.ways s10 r9
      have s510 := s58.trans (s9.trans s10)
      generalize upd H9 tt (.tup [V.ref w1, V.ref x3]) = H10 at g0 kw r9 s510 ⊢
      have dD10 := s510 _ _ dD
      refine ⟨D, _, _, rfl, rfl, dD10, sz_lt (by omega), ?_⟩
      have pr2 : Paired (LineAt D (upd H10 D (.lst (vs ++ [.ref tt])))) (vs ++ [.ref tt]) (F ++ [(List.replicate n t, waysFor tags [t] n)]) := Paired.snoc (L2.Paired.mapP pr fun _ _ z => (z.same s510).upd dD10) (LineAt.upd ⟨tt, w1, x3, rfl, w1D, x3D, g0, kw, r9⟩ dD10)
      obtain ⟨ts, e1, pF⟩ := line_form pr2
      have s1D : Same H1 (upd H10 D (.lst (vs ++ [.ref tt]))) := Same.mut (s4.trans s510) hD
      have hF : FormAt (upd H10 D (.lst (vs ++ [.ref tt]))) D (F ++ [(List.replicate n t, waysFor tags [t] n)]) := ⟨ts, by rw [upd_same, e1], pF⟩
      generalize upd H10 D (.lst (vs ++ [.ref tt])) = H11 at s1D hF ⊢
      have fl2 : (F ++ [((List.replicate n t : Word), waysFor tags [t] n)]).length = n + 1 := by rw [List.length_append, fl]; rfl
      have all : ∀ s ∈ F ++ [((List.replicate n t : Word), waysFor tags [t] n)], s.1.length ≤ 20 ∧ (∀ u ∈ s.1, u ∈ tags) ∧ s.2.length = tags.length ∧ ∀ m, some m ∈ s.2 → m ≤ n := fun s hs => by
        rcases List.mem_append.mp hs with hs | hs
        · exact fo s hs
        · rw [List.mem_singleton.mp hs]
          exact ⟨by rw [List.length_replicate]; omega, fun u hu => by rw [List.eq_of_mem_replicate hu]; exact hin, waysFor_len .., fun m hm => by rw [waysFor_to hm]; exact Nat.le_refl _⟩
      generalize F ++ [((List.replicate n t : Word), waysFor tags [t] n)] = G at hF fl2 all
      have s011 := s1.trans s1D
      have t11 := tb.ext s011
      refine ⟨_, rfl, _, rfl, _, rfl, a, D, tags, G, rfl, Same.word s011 ha, hF, ⟨by omega, fun s hs => (all s hs).2.2.1, fun s hs m hm => by have := (all s hs).2.2.2 m hm; omega, by omega⟩, ⟨fun x hx => (to.names x hx).txt, fun s hs => (all s hs).2.1, fun s hs => by have := (all s hs).1; omega⟩, by omega, t11, fun p L H12 e12 t12 n12 => ?_⟩
      have e012 := (QB.Ext.of (T := Tof X) s011).trans e12
      refine ⟨a, .ref p, tags, rfl, e012.word ha, to, t12, fun e H' e' t' => k e H' (e012.trans e') t'⟩
end
end Law
end

section
set_option Elab.async false
set_option linter.all false
set_option maxRecDepth 100000
set_option maxHeartbeats 4000000
namespace Law
open PySem PySem.Spec PyProof.Rows L2 LamX QB QM QV
def wayM (way : Nat) (dv : PyData) (y : V) (dy : PyData) (z : V) (dz : PyData) : DueM :=
  if way = 0 then tagsM dv else if way = 1 then putM dv dy else if way = 2 then stripM dv dy z dz else if way = 3 then onceM dv y dy else if way = 4 then exchangeM dv dy else pressM dv y dy z dz
def dueL : DueM → List V
  | none => []
  | some (k, iv) => [.str k.name, iv]
theorem look1 (f : Str) (v : V) : List.lookup f [(f, v)] = some v := by simp [List.lookup]
theorem ne_way {i j : Int} (h : i ≠ j) : decide (V.int i = V.int j) = false := decide_eq_false fun e => h (V.int.inj e)
section
variable {P : Program} {w : World} {K : PySem.W.Frag} {mg : Str → Option Value} {base : Heap}
/-- how a deed ends -/
def EndsN (X : TX K mg) (due : DueM) (T : List (Addr × Str)) (H : Hp) (Q : VK) (E : XK) : Prop := match due with
  | none => ∀ H', QB.Ext T H H' → Tabs T H' → Q .non H'
  | some (k, iv) => BadK X k iv H E
def spDoneX (X : TX K mg) (T : List (Addr × Str)) : Sp := fun vs H Q E => ∃ (way : Nat) (v y z : V) (dv dy dz : PyData), vs = [.int (way : Int), v, y, z] ∧ way ≤ 5 ∧ Dv H v dv ∧ Dv H y dy ∧ Dv H z dz ∧ dv.weight ≤ 10000 ∧ dy.weight ≤ 10000 ∧ Tabs T H ∧ EndsN X (wayM way dv y dy z dz) T H Q E
theorem EndsN.to {X : TX K mg} {due : DueM} {T : List (Addr × Str)} {H : Hp} {Q : VK} {E : XK} {Q' : VK} (h : EndsN X due T H Q E) (k : (∀ H', QB.Ext T H H' → Tabs T H' → Q .non H') → ∀ e H', QB.Ext T H H' → Tabs T H' → Q' (.ref e) H') : Ends X due T H Q' E := by
  cases due with
  | none => exact k h
  | some d => exact h
theorem okx__law_done (X : TX K mg) (TB : LamX.TabB base mg X.lam_c X.lam_P) : FnOk P w K mg base (L2.CX P w) 9 X.d__law_done.a X.d__law_done.fd ["way", "tags", "one", "two"] (spDoneX X (Tof X)) := by
  have nd := sc__law_done.nd
  refine X.d__law_done.F.okX sc__law_done (fun vs H Q E h => ?_) (fun cdv A outer s0 H vs Q E hr h => ?_)
  · obtain ⟨way, v, y, z, dv, dy, dz, rfl, _⟩ := h
    rfl
  · obtain ⟨way, v, y, z, dv, dy, dz, rfl, hway, hv, hy, hz, zv, zy, tb, h⟩ := h
    refine ⟨_, (pss_cons (ps_if (pt_cmpR op_eq (pv 0) pe_int (nomark _)) (pss_one (ps_expr (pe_call (okx_keep X TB) (hr.mono (by decide)) rfl X.d_keep.mg X.d_keep.F.kp X.d_keep.b .nil (passes_call (takes_of rfl rfl rfl rfl) (fun _ _ _ _ h => h)) (pa_cons (pv 1) pa_nil)))) pss_nil) (pss_cons (ps_if (pt_cmpR op_eq (pv 0) pe_int (nomark _)) (pss_one (ps_expr (pe_call (okx_put X TB) (hr.mono (by decide)) rfl X.d_put.mg X.d_put.F.kp X.d_put.b .nil (passes_call (takes_of rfl rfl rfl rfl) (fun _ _ _ _ h => h)) (pa_cons (pv 1) (pa_cons (pv 2) pa_nil))))) pss_nil) (pss_cons (ps_if (pt_cmpR op_eq (pv 0) pe_int (nomark _)) (pss_one (ps_expr (pe_call (okx_strip X TB) (hr.mono (by decide)) rfl X.d_strip.mg X.d_strip.F.kp X.d_strip.b .nil (passes_call (takes_of rfl rfl rfl rfl) (fun _ _ _ _ h => h)) (pa_cons (pv 1) (pa_cons (pv 2) (pa_cons (pv 3) pa_nil)))))) pss_nil) (pss_cons (ps_if (pt_cmpR op_eq (pv 0) pe_int (nomark _)) (pss_one (ps_expr (pe_call (okx_once X TB) (hr.mono (by decide)) rfl X.d_once.mg X.d_once.F.kp X.d_once.b .nil (passes_call (takes_of rfl rfl rfl rfl) (fun _ _ _ _ h => h)) (pa_cons (pv 1) (pa_cons (pv 2) pa_nil))))) pss_nil) (pss_cons (ps_if (pt_cmpR op_eq (pv 0) pe_int (nomark _)) (pss_one (ps_expr (pe_call (okx_exchange X TB) (hr.mono (by decide)) rfl X.d_exchange.mg X.d_exchange.F.kp X.d_exchange.b .nil (passes_call (takes_of rfl rfl rfl rfl) (fun _ _ _ _ h => h)) (pa_cons (pv 1) (pa_cons (pv 2) pa_nil))))) pss_nil) (pss_one (ps_if (pt_cmpR op_eq (pv 0) pe_int (nomark _)) (pss_one (ps_expr (pe_call (okx_press X TB) (hr.mono (by decide)) rfl X.d_press.mg X.d_press.F.kp X.d_press.b .nil (passes_call (takes_of rfl rfl rfl rfl) (fun _ _ _ _ h => h)) (pa_cons (pv 1) (pa_cons (pv 2) (pa_cons (pv 3) pa_nil)))))) pss_nil))))))), ?_⟩
    try dsimp only [Cx.nox, Cx.wish, cxOf]
    rcases (by omega : way = 0 ∨ way = 1 ∨ way = 2 ∨ way = 3 ∨ way = 4 ∨ way = 5) with rfl | rfl | rfl | rfl | rfl | rfl
    · have h : EndsN X (tagsM dv) (Tof X) H Q E := h
      refine ⟨_, rfl, rfl, _, rfl, ?_⟩
      rw [decide_eq_true (show V.int (((0 : Nat)) : Int) = V.int 0 from rfl)]
      refine iteT ?_
      refine ⟨_, rfl, v, dv, rfl, hv, zv, tb, ?_⟩
      refine h.to fun k e H1 e1 t1 => ?_
      refine ⟨_, rfl, rfl, _, rfl, ?_⟩
      rw [ne_way (by decide)]
      refine iteF ?_
      refine ⟨_, rfl, rfl, _, rfl, ?_⟩
      rw [ne_way (by decide)]
      refine iteF ?_
      refine ⟨_, rfl, rfl, _, rfl, ?_⟩
      rw [ne_way (by decide)]
      refine iteF ?_
      refine ⟨_, rfl, rfl, _, rfl, ?_⟩
      rw [ne_way (by decide)]
      refine iteF ?_
      refine ⟨_, rfl, rfl, _, rfl, ?_⟩
      rw [ne_way (by decide)]
      refine iteF ?_
      exact k H1 e1 t1
    · have h : EndsN X (putM dv dy) (Tof X) H Q E := h
      refine ⟨_, rfl, rfl, _, rfl, ?_⟩
      rw [ne_way (by decide)]
      refine iteF ?_
      refine ⟨_, rfl, rfl, _, rfl, ?_⟩
      rw [decide_eq_true (show V.int (((1 : Nat)) : Int) = V.int 1 from rfl)]
      refine iteT ?_
      refine ⟨_, rfl, _, rfl, v, y, dv, dy, rfl, hv, hy, zv, zy, tb, ?_⟩
      refine h.to fun k e H1 e1 t1 => ?_
      refine ⟨_, rfl, rfl, _, rfl, ?_⟩
      rw [ne_way (by decide)]
      refine iteF ?_
      refine ⟨_, rfl, rfl, _, rfl, ?_⟩
      rw [ne_way (by decide)]
      refine iteF ?_
      refine ⟨_, rfl, rfl, _, rfl, ?_⟩
      rw [ne_way (by decide)]
      refine iteF ?_
      refine ⟨_, rfl, rfl, _, rfl, ?_⟩
      rw [ne_way (by decide)]
      refine iteF ?_
      exact k H1 e1 t1
    · have h : EndsN X (stripM dv dy z dz) (Tof X) H Q E := h
      refine ⟨_, rfl, rfl, _, rfl, ?_⟩
      rw [ne_way (by decide)]
      refine iteF ?_
      refine ⟨_, rfl, rfl, _, rfl, ?_⟩
      rw [ne_way (by decide)]
      refine iteF ?_
      refine ⟨_, rfl, rfl, _, rfl, ?_⟩
      rw [decide_eq_true (show V.int (((2 : Nat)) : Int) = V.int 2 from rfl)]
      refine iteT ?_
      refine ⟨_, rfl, _, rfl, _, rfl, v, y, z, dv, dy, dz, rfl, hv, hy, hz, zv, zy, tb, ?_⟩
      refine h.to fun k e H1 e1 t1 => ?_
      refine ⟨_, rfl, rfl, _, rfl, ?_⟩
      rw [ne_way (by decide)]
      refine iteF ?_
      refine ⟨_, rfl, rfl, _, rfl, ?_⟩
      rw [ne_way (by decide)]
      refine iteF ?_
      refine ⟨_, rfl, rfl, _, rfl, ?_⟩
      rw [ne_way (by decide)]
      refine iteF ?_
      exact k H1 e1 t1
    · have h : EndsN X (onceM dv y dy) (Tof X) H Q E := h
      refine ⟨_, rfl, rfl, _, rfl, ?_⟩
      rw [ne_way (by decide)]
      refine iteF ?_
      refine ⟨_, rfl, rfl, _, rfl, ?_⟩
      rw [ne_way (by decide)]
      refine iteF ?_
      refine ⟨_, rfl, rfl, _, rfl, ?_⟩
      rw [ne_way (by decide)]
      refine iteF ?_
      refine ⟨_, rfl, rfl, _, rfl, ?_⟩
      rw [decide_eq_true (show V.int (((3 : Nat)) : Int) = V.int 3 from rfl)]
      refine iteT ?_
      refine ⟨_, rfl, _, rfl, v, y, dv, dy, rfl, hv, hy, zv, zy, tb, ?_⟩
      refine h.to fun k e H1 e1 t1 => ?_
      refine ⟨_, rfl, rfl, _, rfl, ?_⟩
      rw [ne_way (by decide)]
      refine iteF ?_
      refine ⟨_, rfl, rfl, _, rfl, ?_⟩
      rw [ne_way (by decide)]
      refine iteF ?_
      exact k H1 e1 t1
    · have h : EndsN X (exchangeM dv dy) (Tof X) H Q E := h
      refine ⟨_, rfl, rfl, _, rfl, ?_⟩
      rw [ne_way (by decide)]
      refine iteF ?_
      refine ⟨_, rfl, rfl, _, rfl, ?_⟩
      rw [ne_way (by decide)]
      refine iteF ?_
      refine ⟨_, rfl, rfl, _, rfl, ?_⟩
      rw [ne_way (by decide)]
      refine iteF ?_
      refine ⟨_, rfl, rfl, _, rfl, ?_⟩
      rw [ne_way (by decide)]
      refine iteF ?_
      refine ⟨_, rfl, rfl, _, rfl, ?_⟩
      rw [decide_eq_true (show V.int (((4 : Nat)) : Int) = V.int 4 from rfl)]
      refine iteT ?_
      refine ⟨_, rfl, _, rfl, v, y, dv, dy, rfl, hv, hy, zv, zy, tb, ?_⟩
      refine h.to fun k e H1 e1 t1 => ?_
      refine ⟨_, rfl, rfl, _, rfl, ?_⟩
      rw [ne_way (by decide)]
      refine iteF ?_
      exact k H1 e1 t1
    · have h : EndsN X (pressM dv y dy z dz) (Tof X) H Q E := h
      refine ⟨_, rfl, rfl, _, rfl, ?_⟩
      rw [ne_way (by decide)]
      refine iteF ?_
      refine ⟨_, rfl, rfl, _, rfl, ?_⟩
      rw [ne_way (by decide)]
      refine iteF ?_
      refine ⟨_, rfl, rfl, _, rfl, ?_⟩
      rw [ne_way (by decide)]
      refine iteF ?_
      refine ⟨_, rfl, rfl, _, rfl, ?_⟩
      rw [ne_way (by decide)]
      refine iteF ?_
      refine ⟨_, rfl, rfl, _, rfl, ?_⟩
      rw [ne_way (by decide)]
      refine iteF ?_
      refine ⟨_, rfl, rfl, _, rfl, ?_⟩
      rw [decide_eq_true (show V.int (((5 : Nat)) : Int) = V.int 5 from rfl)]
      refine iteT ?_
      refine ⟨_, rfl, _, rfl, _, rfl, v, y, z, dv, dy, dz, rfl, hv, hy, hz, zv, zy, tb, ?_⟩
      refine h.to fun k e H1 e1 t1 => ?_
      exact k H1 e1 t1
def spTold (T : List (Addr × Str)) : Sp := fun vs H Q _ => ∃ (way : Nat) (v y z : V) (dv dy dz : PyData), vs = [.int (way : Int), v, y, z] ∧ way ≤ 5 ∧ Dv H v dv ∧ Dv H y dy ∧ Dv H z dz ∧ dv.weight ≤ 10000 ∧ dy.weight ≤ 10000 ∧ Tabs T H ∧
  ∀ p H', QB.Ext T H H' → Tabs T H' → H' p = some (.lst (dueL (wayM way dv y dy z dz))) → Q (.ref p) H'
theorem ok__law_told (X : TX K mg) (TB : LamX.TabB base mg X.lam_c X.lam_P) : FnOk P w K mg base CX0 10 X.d__law_told.a X.d__law_told.fd ["way", "tags", "one", "two"] (spTold (Tof X)) := by
  have nd := sc__law_told.nd
  refine X.d__law_told.F.ok sc__law_told (fun vs H Q E h => ?_) (fun cdv A outer s0 H vs Q E hr h => ?_)
  · obtain ⟨way, v, y, z, dv, dy, dz, rfl, _⟩ := h
    rfl
  · obtain ⟨way, v, y, z, dv, dy, dz, rfl, hway, hv, hy, hz, zv, zy, tb, k⟩ := h
    refine ⟨_, (pss_cons (ps_set (i := 4) nd rfl (Or.inl rfl) pe_non) (pss_cons (QX.ps_try_keep (i := 5) (Wout := fun _ _ _ _ => False) rfl rfl rfl nd rfl rfl ⟨rfl, by decide, Or.inl X.me_TagError⟩ L2.takes0 (fun W pn xe tk po => (pss_one (ps_expr (pe_callS (okx__law_done X TB) (hr.mono (by decide)) rfl X.d__law_done.mg X.d__law_done.F.kp X.d__law_done.b (fun σ => passAt tk σ) (pa_cons (pv 0) (pa_cons (pv 1) (pa_cons (pv 2) (pa_cons (pv 3) pa_nil)))))))) (fun a oe cls d pn hz hf => (pss_one (ps_set (i := 4) nd rfl (Or.inl rfl) (pv 5))))) (pss_cons (ps_if (pt_cmpR op_isN (pv 4) pe_non (nomark _)) (pss_one (ps_ret (pe_lst pa_nil))) pss_nil) (pss_cons (ps_if (PW.pt (pw_or (pt_val (pe_callB (QX.call_isXTK K) (by rfl) X.n_isinstance QB.bo_isinstance (pa_cons (pv 4) (pa_cons (pe_tup (pa_cons (pe_glob (v := .ref X.e_InvalidEater) rfl X.me_InvalidEater rfl) (pa_cons (pe_glob (v := .ref X.e_TooMany) rfl X.me_TooMany rfl) pa_nil))) pa_nil)))) (pw_or1 (pt_not (pt_val (pe_callB (QX.call_isXK K) (by rfl) X.n_isinstance QB.bo_isinstance (pa_cons (pv 4) (pa_cons (pe_bltn (v := .ty "ValueError") (by rfl) X.n_ValueError PyProof.Rows.Boot.«ValueError» rfl) pa_nil)))))))) (pss_one (ps_ret (pe_lst (pa_cons pe_str pa_nil)))) pss_nil) (pss_cons (ps_if (pt_val (pe_callB (QX.call_isXK K) (by rfl) X.n_isinstance QB.bo_isinstance (pa_cons (pv 4) (pa_cons (pe_glob (v := .ref X.e_InvalidTags) rfl X.me_InvalidTags rfl) pa_nil)))) (pss_one (ps_ret (pe_lst (pa_cons pe_str (pa_cons (QX.pe_fxK K (pv 4) rfl) pa_nil))))) pss_nil) (pss_cons (ps_if (pt_val (pe_callB (QX.call_isXK K) (by rfl) X.n_isinstance QB.bo_isinstance (pa_cons (pv 4) (pa_cons (pe_glob (v := .ref X.e_InvalidSubject) rfl X.me_InvalidSubject rfl) pa_nil)))) (pss_one (ps_ret (pe_lst (pa_cons pe_str (pa_cons (QX.pe_fxK K (pv 4) rfl) pa_nil))))) pss_nil) (pss_cons (ps_if (pt_val (pe_callB (QX.call_isXK K) (by rfl) X.n_isinstance QB.bo_isinstance (pa_cons (pv 4) (pa_cons (pe_glob (v := .ref X.e_InvalidTag) rfl X.me_InvalidTag rfl) pa_nil)))) (pss_one (ps_ret (pe_lst (pa_cons pe_str (pa_cons (QX.pe_fxK K (pv 4) rfl) pa_nil))))) pss_nil) (pss_cons (ps_if (pt_val (pe_callB (QX.call_isXK K) (by rfl) X.n_isinstance QB.bo_isinstance (pa_cons (pv 4) (pa_cons (pe_glob (v := .ref X.e_InvalidPairs) rfl X.me_InvalidPairs rfl) pa_nil)))) (pss_one (ps_ret (pe_lst (pa_cons pe_str (pa_cons (QX.pe_fxK K (pv 4) rfl) pa_nil))))) pss_nil) (pss_one (ps_ret (pe_lst (pa_cons pe_str (pa_cons (pe_and (pe_callB (QX.call_isXK K) (by rfl) X.n_isinstance QB.bo_isinstance (pa_cons (pv 4) (pa_cons (pe_glob (v := .ref X.e_InvalidNumber) rfl X.me_InvalidNumber rfl) pa_nil))) (pe_one (QX.pe_fxK K (pv 4) rfl))) pa_nil))))))))))))), ?_⟩
    try dsimp only [Cx.nox, Cx.wish, cxOf]
    refine ⟨_, rfl, _, rfl, _, rfl, _, rfl, way, v, y, z, dv, dy, dz, rfl, hway, hv, hy, hz, zv, zy, tb, ?_⟩
    cases hd : wayM way dv y dy z dz with
    | none =>
      rw [hd] at k
      refine fun H1 e1 t1 => ?_
      refine ⟨_, rfl, rfl, _, rfl, ?_⟩
      rw [decide_eq_true rfl]
      refine iteT ?_
      refine ⟨by show 0 ≤ sizeLine; decide, fun p hp => ?_⟩
      have s5 := same_new (o := .lst ([] : List V)) hp
      exact k p _ (e1.trans (.of s5)) (t1.ext s5) upd_same
    | some kv =>
      obtain ⟨kk, iv⟩ := kv
      rw [hd] at k
      cases kk with
      | tags =>
        refine fun dd H1 s1 h1 n1 => ?_
        refine ⟨true, X.ex_InvalidTags, fun q => Bool.noConfusion q, fun _ a ha => ⟨_, rfl, ?_⟩⟩
        have hk : (upd H1 a (QX.Kept (.ref X.e_InvalidTags) (some dd) a)) a = some (QX.Kept (.ref X.e_InvalidTags) (some dd) a) := upd_same
        have hx := (same_new (o := QX.Kept (.ref X.e_InvalidTags) (some dd) a) ha) _ _ h1
        have s2 := s1.trans (same_new (o := QX.Kept (.ref X.e_InvalidTags) (some dd) a) ha)
        refine ⟨_, rfl, rfl, _, rfl, ?_⟩
        rw [decide_eq_false (fun e => nomatch e)]
        refine iteF ?_
        refine ⟨_, rfl, by show 2 ≤ sizeLine; decide, fun tp htp => ?_⟩
        have s3 := same_new (o := .tup [V.ref X.e_InvalidEater, .ref X.e_TooMany]) htp
        have hk3 := s3 _ _ hk
        have hx3 := s3 _ _ hx
        refine ⟨a, _, tp, some dd, _, [.ref X.e_InvalidEater, .ref X.e_TooMany], false, rfl, hk3, .inr ⟨dd, _, rfl, hx3⟩, X.xt_InvalidTags.exc, upd_same, .cons (.own _) (.cons (.own _) .nil), ?_, false, rfl, ?_⟩
        · simp only [PySem.W.kitAny, X.ki_InvalidTags_InvalidEater, X.ki_InvalidTags_TooMany]
        have s4 := s2.trans s3
        refine iteF ?_
        refine ⟨_, rfl, a, _, some dd, _, _, true, rfl, hk3, .inr ⟨dd, _, rfl, hx3⟩, X.xt_InvalidTags.exc, .ty "ValueError", X.kv_InvalidTags, true, rfl, ?_⟩
        refine iteF ?_
        refine ⟨_, rfl, a, _, some dd, _, _, true, rfl, hk3, .inr ⟨dd, _, rfl, hx3⟩, X.xt_InvalidTags.exc, .own _, X.ki_InvalidTags_InvalidTags, true, rfl, ?_⟩
        refine iteT ?_
        refine ⟨_, rfl, a, _, dd, _, iv, rfl, hk3, X.xt_InvalidTags.xf, X.xt_InvalidTags.noF, hx3, look1 _ _, by show 2 ≤ sizeLine; decide, fun p hp => ?_⟩
        have s5 := Same.new s4 (o := .lst [V.str "tags", iv]) hp
        exact k p _ (.of s5) (tb.ext s5) upd_same
      | subject =>
        refine fun dd H1 s1 h1 n1 => ?_
        refine ⟨true, X.ex_InvalidSubject, fun q => Bool.noConfusion q, fun _ a ha => ⟨_, rfl, ?_⟩⟩
        have hk : (upd H1 a (QX.Kept (.ref X.e_InvalidSubject) (some dd) a)) a = some (QX.Kept (.ref X.e_InvalidSubject) (some dd) a) := upd_same
        have hx := (same_new (o := QX.Kept (.ref X.e_InvalidSubject) (some dd) a) ha) _ _ h1
        have s2 := s1.trans (same_new (o := QX.Kept (.ref X.e_InvalidSubject) (some dd) a) ha)
        refine ⟨_, rfl, rfl, _, rfl, ?_⟩
        rw [decide_eq_false (fun e => nomatch e)]
        refine iteF ?_
        refine ⟨_, rfl, by show 2 ≤ sizeLine; decide, fun tp htp => ?_⟩
        have s3 := same_new (o := .tup [V.ref X.e_InvalidEater, .ref X.e_TooMany]) htp
        have hk3 := s3 _ _ hk
        have hx3 := s3 _ _ hx
        refine ⟨a, _, tp, some dd, _, [.ref X.e_InvalidEater, .ref X.e_TooMany], false, rfl, hk3, .inr ⟨dd, _, rfl, hx3⟩, X.xt_InvalidSubject.exc, upd_same, .cons (.own _) (.cons (.own _) .nil), ?_, false, rfl, ?_⟩
        · simp only [PySem.W.kitAny, X.ki_InvalidSubject_InvalidEater, X.ki_InvalidSubject_TooMany]
        have s4 := s2.trans s3
        refine iteF ?_
        refine ⟨_, rfl, a, _, some dd, _, _, true, rfl, hk3, .inr ⟨dd, _, rfl, hx3⟩, X.xt_InvalidSubject.exc, .ty "ValueError", X.kv_InvalidSubject, true, rfl, ?_⟩
        refine iteF ?_
        refine ⟨_, rfl, a, _, some dd, _, _, false, rfl, hk3, .inr ⟨dd, _, rfl, hx3⟩, X.xt_InvalidSubject.exc, .own _, X.ki_InvalidSubject_InvalidTags, false, rfl, ?_⟩
        refine iteF ?_
        refine ⟨_, rfl, a, _, some dd, _, _, true, rfl, hk3, .inr ⟨dd, _, rfl, hx3⟩, X.xt_InvalidSubject.exc, .own _, X.ki_InvalidSubject_InvalidSubject, true, rfl, ?_⟩
        refine iteT ?_
        refine ⟨_, rfl, a, _, dd, _, iv, rfl, hk3, X.xt_InvalidSubject.xf, X.xt_InvalidSubject.noF, hx3, look1 _ _, by show 2 ≤ sizeLine; decide, fun p hp => ?_⟩
        have s5 := Same.new s4 (o := .lst [V.str "subject", iv]) hp
        exact k p _ (.of s5) (tb.ext s5) upd_same
      | tag =>
        refine fun dd H1 s1 h1 n1 => ?_
        refine ⟨true, X.ex_InvalidTag, fun q => Bool.noConfusion q, fun _ a ha => ⟨_, rfl, ?_⟩⟩
        have hk : (upd H1 a (QX.Kept (.ref X.e_InvalidTag) (some dd) a)) a = some (QX.Kept (.ref X.e_InvalidTag) (some dd) a) := upd_same
        have hx := (same_new (o := QX.Kept (.ref X.e_InvalidTag) (some dd) a) ha) _ _ h1
        have s2 := s1.trans (same_new (o := QX.Kept (.ref X.e_InvalidTag) (some dd) a) ha)
        refine ⟨_, rfl, rfl, _, rfl, ?_⟩
        rw [decide_eq_false (fun e => nomatch e)]
        refine iteF ?_
        refine ⟨_, rfl, by show 2 ≤ sizeLine; decide, fun tp htp => ?_⟩
        have s3 := same_new (o := .tup [V.ref X.e_InvalidEater, .ref X.e_TooMany]) htp
        have hk3 := s3 _ _ hk
        have hx3 := s3 _ _ hx
        refine ⟨a, _, tp, some dd, _, [.ref X.e_InvalidEater, .ref X.e_TooMany], false, rfl, hk3, .inr ⟨dd, _, rfl, hx3⟩, X.xt_InvalidTag.exc, upd_same, .cons (.own _) (.cons (.own _) .nil), ?_, false, rfl, ?_⟩
        · simp only [PySem.W.kitAny, X.ki_InvalidTag_InvalidEater, X.ki_InvalidTag_TooMany]
        have s4 := s2.trans s3
        refine iteF ?_
        refine ⟨_, rfl, a, _, some dd, _, _, true, rfl, hk3, .inr ⟨dd, _, rfl, hx3⟩, X.xt_InvalidTag.exc, .ty "ValueError", X.kv_InvalidTag, true, rfl, ?_⟩
        refine iteF ?_
        refine ⟨_, rfl, a, _, some dd, _, _, false, rfl, hk3, .inr ⟨dd, _, rfl, hx3⟩, X.xt_InvalidTag.exc, .own _, X.ki_InvalidTag_InvalidTags, false, rfl, ?_⟩
        refine iteF ?_
        refine ⟨_, rfl, a, _, some dd, _, _, false, rfl, hk3, .inr ⟨dd, _, rfl, hx3⟩, X.xt_InvalidTag.exc, .own _, X.ki_InvalidTag_InvalidSubject, false, rfl, ?_⟩
        refine iteF ?_
        refine ⟨_, rfl, a, _, some dd, _, _, true, rfl, hk3, .inr ⟨dd, _, rfl, hx3⟩, X.xt_InvalidTag.exc, .own _, X.ki_InvalidTag_InvalidTag, true, rfl, ?_⟩
        refine iteT ?_
        refine ⟨_, rfl, a, _, dd, _, iv, rfl, hk3, X.xt_InvalidTag.xf, X.xt_InvalidTag.noF, hx3, look1 _ _, by show 2 ≤ sizeLine; decide, fun p hp => ?_⟩
        have s5 := Same.new s4 (o := .lst [V.str "tag", iv]) hp
        exact k p _ (.of s5) (tb.ext s5) upd_same
      | pairs =>
        refine fun dd H1 s1 h1 n1 => ?_
        refine ⟨true, X.ex_InvalidPairs, fun q => Bool.noConfusion q, fun _ a ha => ⟨_, rfl, ?_⟩⟩
        have hk : (upd H1 a (QX.Kept (.ref X.e_InvalidPairs) (some dd) a)) a = some (QX.Kept (.ref X.e_InvalidPairs) (some dd) a) := upd_same
        have hx := (same_new (o := QX.Kept (.ref X.e_InvalidPairs) (some dd) a) ha) _ _ h1
        have s2 := s1.trans (same_new (o := QX.Kept (.ref X.e_InvalidPairs) (some dd) a) ha)
        refine ⟨_, rfl, rfl, _, rfl, ?_⟩
        rw [decide_eq_false (fun e => nomatch e)]
        refine iteF ?_
        refine ⟨_, rfl, by show 2 ≤ sizeLine; decide, fun tp htp => ?_⟩
        have s3 := same_new (o := .tup [V.ref X.e_InvalidEater, .ref X.e_TooMany]) htp
        have hk3 := s3 _ _ hk
        have hx3 := s3 _ _ hx
        refine ⟨a, _, tp, some dd, _, [.ref X.e_InvalidEater, .ref X.e_TooMany], false, rfl, hk3, .inr ⟨dd, _, rfl, hx3⟩, X.xt_InvalidPairs.exc, upd_same, .cons (.own _) (.cons (.own _) .nil), ?_, false, rfl, ?_⟩
        · simp only [PySem.W.kitAny, X.ki_InvalidPairs_InvalidEater, X.ki_InvalidPairs_TooMany]
        have s4 := s2.trans s3
        refine iteF ?_
        refine ⟨_, rfl, a, _, some dd, _, _, true, rfl, hk3, .inr ⟨dd, _, rfl, hx3⟩, X.xt_InvalidPairs.exc, .ty "ValueError", X.kv_InvalidPairs, true, rfl, ?_⟩
        refine iteF ?_
        refine ⟨_, rfl, a, _, some dd, _, _, false, rfl, hk3, .inr ⟨dd, _, rfl, hx3⟩, X.xt_InvalidPairs.exc, .own _, X.ki_InvalidPairs_InvalidTags, false, rfl, ?_⟩
        refine iteF ?_
        refine ⟨_, rfl, a, _, some dd, _, _, false, rfl, hk3, .inr ⟨dd, _, rfl, hx3⟩, X.xt_InvalidPairs.exc, .own _, X.ki_InvalidPairs_InvalidSubject, false, rfl, ?_⟩
        refine iteF ?_
        refine ⟨_, rfl, a, _, some dd, _, _, false, rfl, hk3, .inr ⟨dd, _, rfl, hx3⟩, X.xt_InvalidPairs.exc, .own _, X.ki_InvalidPairs_InvalidTag, false, rfl, ?_⟩
        refine iteF ?_
        refine ⟨_, rfl, a, _, some dd, _, _, true, rfl, hk3, .inr ⟨dd, _, rfl, hx3⟩, X.xt_InvalidPairs.exc, .own _, X.ki_InvalidPairs_InvalidPairs, true, rfl, ?_⟩
        refine iteT ?_
        refine ⟨_, rfl, a, _, dd, _, iv, rfl, hk3, X.xt_InvalidPairs.xf, X.xt_InvalidPairs.noF, hx3, look1 _ _, by show 2 ≤ sizeLine; decide, fun p hp => ?_⟩
        have s5 := Same.new s4 (o := .lst [V.str "pairs", iv]) hp
        exact k p _ (.of s5) (tb.ext s5) upd_same
      | number =>
        refine fun dd H1 s1 h1 n1 => ?_
        refine ⟨true, X.ex_InvalidNumber, fun q => Bool.noConfusion q, fun _ a ha => ⟨_, rfl, ?_⟩⟩
        have hk : (upd H1 a (QX.Kept (.ref X.e_InvalidNumber) (some dd) a)) a = some (QX.Kept (.ref X.e_InvalidNumber) (some dd) a) := upd_same
        have hx := (same_new (o := QX.Kept (.ref X.e_InvalidNumber) (some dd) a) ha) _ _ h1
        have s2 := s1.trans (same_new (o := QX.Kept (.ref X.e_InvalidNumber) (some dd) a) ha)
        refine ⟨_, rfl, rfl, _, rfl, ?_⟩
        rw [decide_eq_false (fun e => nomatch e)]
        refine iteF ?_
        refine ⟨_, rfl, by show 2 ≤ sizeLine; decide, fun tp htp => ?_⟩
        have s3 := same_new (o := .tup [V.ref X.e_InvalidEater, .ref X.e_TooMany]) htp
        have hk3 := s3 _ _ hk
        have hx3 := s3 _ _ hx
        refine ⟨a, _, tp, some dd, _, [.ref X.e_InvalidEater, .ref X.e_TooMany], false, rfl, hk3, .inr ⟨dd, _, rfl, hx3⟩, X.xt_InvalidNumber.exc, upd_same, .cons (.own _) (.cons (.own _) .nil), ?_, false, rfl, ?_⟩
        · simp only [PySem.W.kitAny, X.ki_InvalidNumber_InvalidEater, X.ki_InvalidNumber_TooMany]
        have s4 := s2.trans s3
        refine iteF ?_
        refine ⟨_, rfl, a, _, some dd, _, _, true, rfl, hk3, .inr ⟨dd, _, rfl, hx3⟩, X.xt_InvalidNumber.exc, .ty "ValueError", X.kv_InvalidNumber, true, rfl, ?_⟩
        refine iteF ?_
        refine ⟨_, rfl, a, _, some dd, _, _, false, rfl, hk3, .inr ⟨dd, _, rfl, hx3⟩, X.xt_InvalidNumber.exc, .own _, X.ki_InvalidNumber_InvalidTags, false, rfl, ?_⟩
        refine iteF ?_
        refine ⟨_, rfl, a, _, some dd, _, _, false, rfl, hk3, .inr ⟨dd, _, rfl, hx3⟩, X.xt_InvalidNumber.exc, .own _, X.ki_InvalidNumber_InvalidSubject, false, rfl, ?_⟩
        refine iteF ?_
        refine ⟨_, rfl, a, _, some dd, _, _, false, rfl, hk3, .inr ⟨dd, _, rfl, hx3⟩, X.xt_InvalidNumber.exc, .own _, X.ki_InvalidNumber_InvalidTag, false, rfl, ?_⟩
        refine iteF ?_
        refine ⟨_, rfl, a, _, some dd, _, _, false, rfl, hk3, .inr ⟨dd, _, rfl, hx3⟩, X.xt_InvalidNumber.exc, .own _, X.ki_InvalidNumber_InvalidPairs, false, rfl, ?_⟩
        refine iteF ?_
        refine ⟨_, rfl, a, _, some dd, _, _, true, rfl, hk3, .inr ⟨dd, _, rfl, hx3⟩, X.xt_InvalidNumber.exc, .own _, X.ki_InvalidNumber_InvalidNumber, ?_⟩
        refine ⟨true, rfl, ?_⟩
        refine ⟨_, rfl, a, _, dd, _, iv, rfl, hk3, X.xt_InvalidNumber.xf, X.xt_InvalidNumber.noF, hx3, look1 _ _, by show 2 ≤ sizeLine; decide, fun p hp => ?_⟩
        have s5 := Same.new s4 (o := .lst [V.str "number", iv]) hp
        exact k p _ (.of s5) (tb.ext s5) upd_same
end
end Law
end

section
set_option Elab.async false
set_option linter.all false
set_option maxRecDepth 100000
set_option maxHeartbeats 4000000
namespace Law
open PySem PySem.Spec PyProof.Rows L2 LamX QB QM QV
theorem empty_filter {α : Type} (q : α → Bool) (f : α → V) : ∀ l : List α, ((l.filter fun x => !q x).map f).isEmpty = l.all q
  | [] => rfl
  | x :: l => by
    rw [List.all_cons, List.filter_cons]
    cases h : q x with
    | true =>
      rw [show (!true) = false from rfl, if_neg Bool.false_ne_true, empty_filter q f l, Bool.true_and]
    | false => rfl
/-- the same in lists beside each other -/
theorem flt_len : ∀ {xs : List V} {ds : List PyData} {H : Hp} (q : PyData → Bool) (p : Nat → Bool) (f : Nat → V), DvAll H xs ds → (∀ (i : Nat) (d : PyData), ds[i]? = some d → p i = !q d) → (((List.range xs.length).filter p).map f).isEmpty = ds.all q := fun {xs ds H} q p f h e => by
  rw [← h.len]
  have : ((List.range ds.length).filter p).map (fun i => V.non) = (ds.filter fun d => !q d).map fun _ => V.non := filter_range (fun d => !q d) (fun _ => V.non) p (fun _ => V.non) ds fun i x hx => ⟨e i x hx, rfl⟩
  have z := empty_filter q (fun _ => V.non) ds
  rw [← this] at z
  rw [← z]
  cases (List.range ds.length).filter p <;> rfl
section
variable {P : Program} {w : World} {K : PySem.W.Frag} {mg : Str → Option Value} {base : Heap}
theorem ok__law_is_tag (X : TX K mg) : FnOk P w K mg base CX0 3 X.d__law_is_tag.a X.d__law_is_tag.fd ["tags", "thing"] spIsTagD := by
  have nd := sc__law_is_tag.nd
  refine X.d__law_is_tag.F.ok sc__law_is_tag (fun vs H Q E h => ?_) (fun cdv A outer s H vs Q E hr h => ?_)
  · obtain ⟨a, tags, v, d, rfl, _⟩ := h
    rfl
  · obtain ⟨a, tags, v, d, rfl, ha, hd, k⟩ := h
    refine ⟨_, (pss_one (ps_ret (pe_and (pe_callB (QB.call_isiK K) (by rfl) X.n_isinstance QB.bo_isinstance (pa_cons (pv 1) (pa_cons (pe_bltn (v := .ty "str") (by rfl) X.n_str QB.bo_str rfl) pa_nil))) (pe_one (pe_cmpR (QB.op_inK K) (pv 1) (pv 0) rfl))))), ?_⟩
    try dsimp only [Cx.nox, Cx.wish, cxOf]
    refine ⟨_, rfl, _, _, _, _, isSD d, rfl, .ty "str", hd.ty K, kit_s d, isSD d, rfl, ?_⟩
    cases hd with
    | str t =>
      refine iteT ?_
      refine ⟨_, rfl, _, rfl, a, vS tags, rfl, .inl (SqL.of ha), rfl, vS_flat, ?_⟩
      show Q (.bl (if false = true then !inV (.str t) (vS tags) else inV (.str t) (vS tags))) H
      rw [if_neg Bool.false_ne_true, inV_word]
      exact k
    | _ => exact iteF k
theorem ok__law_number_due (X : TX K mg) : FnOk P w K mg base CX0 3 X.d__law_number_due.a X.d__law_number_due.fd ["thing"]
    (fun vs H Q _ => ∃ (v : V) (d : PyData), vs = [v] ∧ Dv H v d ∧ ∀ p H', Same H H' → H p = none → H' p = some (.lst (dueL (numM v d))) → Q (.ref p) H') := by
  have nd := sc__law_number_due.nd
  refine X.d__law_number_due.F.ok sc__law_number_due (fun vs H Q E h => ?_) (fun cdv A outer s H vs Q E hr h => ?_)
  · obtain ⟨v, d, rfl, _⟩ := h
    rfl
  · obtain ⟨v, d, rfl, hd, k⟩ := h
    refine ⟨_, (pss_cons (ps_if (PW.pt (pw_or (pt_not (pt_val (pe_callB (QB.call_isiK K) (by rfl) X.n_isinstance QB.bo_isinstance (pa_cons (pv 0) (pa_cons (pe_bltn (v := .ty "int") (by rfl) X.n_int QB.bo_int rfl) pa_nil))))) (pw_or (pt_val (pe_callB (QB.call_isiK K) (by rfl) X.n_isinstance QB.bo_isinstance (pa_cons (pv 0) (pa_cons (pe_bltn (v := .ty "bool") (by rfl) X.n_bool QB.bo_bool rfl) pa_nil)))) (pw_or (pt_cmpR op_lt (pv 0) pe_int (nomark _)) (pw_or1 (pt_cmpR op_gt (pv 0) pe_int (nomark _))))))) (pss_one (ps_ret (pe_lst (pa_cons pe_str (pa_cons (pv 0) pa_nil))))) pss_nil) (pss_one (ps_ret (pe_lst pa_nil)))), ?_⟩
    try dsimp only [Cx.nox, Cx.wish, cxOf]
    have bad : numD 0 20 d = false → ∀ p, H p = none → Q (.ref p) (upd H p (.lst [V.str (Str.ofString "number"), v])) := fun e p hp => by
      refine k p _ (same_new hp) hp ?_
      rw [upd_same]
      unfold numM
      rw [e, if_neg Bool.false_ne_true]
      rfl
    have good : numD 0 20 d = true → ∀ p, H p = none → Q (.ref p) (upd H p (.lst [])) := fun e p hp => by
      refine k p _ (same_new hp) hp ?_
      rw [upd_same]
      unfold numM
      rw [if_pos e]
      rfl
    refine ⟨_, rfl, _, _, _, _, isID d, rfl, .ty "int", hd.ty K, kit_i d, isID d, rfl, ?_⟩
    cases hd with
    | bl b =>
      refine iteF ?_
      refine ⟨_, rfl, _, _, _, _, true, rfl, .ty "bool", (Dv.bl b).ty K, kit_b (.bool b), true, rfl, ?_⟩
      refine iteT ?_
      exact ⟨_, rfl, by show 2 ≤ sizeLine; decide, bad rfl⟩
    | int n =>
      refine iteF ?_
      refine ⟨_, rfl, _, _, _, _, false, rfl, .ty "bool", (Dv.int (H := H) n).ty K, kit_b (.int n), false, rfl, ?_⟩
      refine iteF ?_
      have e : numD 0 20 (.int n) = decide ((0 : Int) ≤ n ∧ n ≤ 20) := rfl
      rw [e] at bad good
      refine ⟨_, rfl, _, _, rfl, rfl, _, rfl, ?_⟩
      by_cases h0 : n < 0
      · rw [decide_eq_true h0]
        refine iteT ?_
        exact ⟨_, rfl, by show 2 ≤ sizeLine; decide, bad (decide_eq_false (by omega))⟩
      rw [decide_eq_false h0]
      refine iteF ?_
      refine ⟨_, rfl, _, _, rfl, rfl, _, rfl, ?_⟩
      by_cases h20 : (20 : Int) < n
      · rw [decide_eq_true h20]
        refine iteT ?_
        exact ⟨_, rfl, by show 2 ≤ sizeLine; decide, bad (decide_eq_false (by omega))⟩
      rw [decide_eq_false h20]
      refine iteF ?_
      exact ⟨by show 0 ≤ sizeLine; decide, good (decide_eq_true (by omega))⟩
    | _ =>
      refine iteT ?_
      exact ⟨_, rfl, by show 2 ≤ sizeLine; decide, bad rfl⟩
theorem ok__law_list_due (X : TX K mg) : FnOk P w K mg base CX0 4 X.d__law_list_due.a X.d__law_list_due.fd ["tags", "thing", "most", "twice"]
    (fun vs H Q _ => ∃ (a : Addr) (tags : List Str) (v : V) (d : PyData) (most : Nat) (tw : Bool), vs = [.ref a, v, .int (most : Int), .bl tw] ∧ WordAt H a tags ∧ Dv H v d ∧ d.weight ≤ 5000 ∧ (tw = false → most = 5000) ∧
      ∀ p H', Same H H' → H p = none → H' p = some (.lst (dueL (if tw = true then wordM tags most d else someM tags d))) → Q (.ref p) H') := by
  have nd := sc__law_list_due.nd
  refine X.d__law_list_due.F.ok sc__law_list_due (fun vs H Q E h => ?_) (fun cdv A outer s H vs Q E hr h => ?_)
  · obtain ⟨a, tags, v, d, most, tw, rfl, _⟩ := h
    rfl
  · obtain ⟨ta, tags, v, d, most, tw, rfl, hta, hd, hz, htw, k⟩ := h
    refine ⟨_, (pss_cons (ps_if (PW.pt (pw_or (pt_not (pt_val (pe_callB (QB.call_isiK K) (by rfl) X.n_isinstance QB.bo_isinstance (pa_cons (pv 1) (pa_cons (pe_bltn (v := .ty "list") (by rfl) X.n_list QB.bo_list rfl) pa_nil))))) (pw_or1 (pt_cmpR op_gt (pe_callB (QB.call_lenK K) (by rfl) X.n_len PySem.boot_len (pa_cons (pv 1) pa_nil)) (pv 2) (nomark _))))) (pss_one (ps_ret (pe_lst (pa_cons pe_str (pa_cons pe_non pa_nil))))) pss_nil) (pss_cons (ps_for PassesOwn.never rfl (QB.pi_enumK K (by rfl) X.n_enumerate (pa_cons (pv 1) pa_nil)) (pg_tup (by rfl) (pgs_cons (pg_name (i := 4) nd rfl (Or.inl rfl)) (pgs_cons (pg_name (i := 5) nd rfl (Or.inl rfl)) (pgs_nil)))) (pss_one (ps_if (PW.pt (pw_or (pt_not (pt_val (pe_call (ok__law_is_tag X) (hr.mono (by decide)) rfl X.d__law_is_tag.mg X.d__law_is_tag.F.kp X.d__law_is_tag.b .nil pass0 (pa_cons (pv 0) (pa_cons (pv 5) pa_nil))))) (pw_or1 (PW.pt (pw_and (pt_not (pt_val (pv 3))) (pw_and1 (pt_cmpR (QB.op_inK K) (pv 5) (pe_slice (QB.sl_listK K) (pv 1) po_none (po_some (pv 4))) rfl))))))) (pss_one (ps_ret (pe_lst (pa_cons pe_str (pa_cons (pv 4) pa_nil))))) pss_nil))) (pss_one (ps_ret (pe_lst pa_nil))))), ?_⟩
    try dsimp only [Cx.nox, Cx.wish, cxOf]
    refine ⟨_, rfl, _, _, _, _, isLD d, rfl, .ty "list", hd.ty K, kit_l d, isLD d, rfl, ?_⟩
    cases hd with
    | @lst a xs ds ha hall =>
      refine iteF ?_
      have hln := hall.len
      rw [w_list] at hz
      have z1 := all_len ds
      refine ⟨_, rfl, _, _, rfl, .inl (SqL.of ha), _, rfl, _, _, rfl, rfl, _, rfl, ?_⟩
      by_cases hl : ds.length ≤ most
      case neg =>
        rw [decide_eq_true (by omega)]
        refine iteT ?_
        refine ⟨by show 2 ≤ sizeLine; decide, fun p hp => ?_⟩
        refine k p _ (same_new hp) hp ?_
        cases tw with
        | false =>
          have := htw rfl
          omega
        | true =>
          rw [upd_same, if_pos rfl]
          unfold wordM
          rw [show wordDue tags most (.list ds) = some V.non from if_neg hl]
          rfl
      rw [decide_eq_false (by omega)]
      refine iteF ?_
      refine ⟨_, rfl, _, _, rfl, SqL.of ha, ?_⟩
      -- what is wrong at a place
      obtain ⟨bd, hbd⟩ : ∃ bd : Nat → Bool, bd = if tw = true then badWord tags ds else badSome tags ds := ⟨_, rfl⟩
      have hdue : (if tw = true then wordM tags most (.list ds) else someM tags (.list ds)) = (idx (firstBad bd ds.length)).map fun iv => (K5.subject, iv) := by
        cases tw with
        | true =>
          rw [if_pos rfl, hbd, if_pos rfl]
          unfold wordM
          rw [show wordDue tags most (.list ds) = idx (firstBad (badWord tags ds) ds.length) from if_pos hl]
        | false =>
          rw [if_neg Bool.false_ne_true, hbd, if_neg Bool.false_ne_true]
          rfl
      rw [hdue] at k
      have tagsB : ∀ i ≤ ds.length, (∀ j < i, bd j = false) → ∀ d ∈ ds.take i, tagD tags d = true := fun i hi hno d hd => by
        cases tw with
        | false => exact some_before (tags := tags) hi (fun j hj => by have := hno j hj; rw [hbd, if_neg Bool.false_ne_true] at this; exact this) d hd
        | true =>
          obtain ⟨j, hj, e⟩ := List.mem_iff_getElem.mp hd
          rw [List.length_take] at hj
          have hb := hno j (by omega)
          rw [hbd, if_pos rfl] at hb
          unfold badWord at hb
          rw [List.getElem_take] at e
          rw [List.getElem?_eq_getElem (by omega), e] at hb
          simpa using hb
      refine for_it (walk_enum (K := K) (a := a) (xs := xs)) (fun i σ H' => ∃ v1 v2, σ = [some (.ref ta), some (.ref a), some (.int (most : Int)), some (.bl tw), v1, v2] ∧ Same H H' ∧ ∀ j < i, bd j = false) ⟨none, none, rfl, Same.refl H, fun j hj => by omega⟩ (fun i σ H' _ ⟨_, _, _, s1, _⟩ => SqL.of (s1 _ _ ha)) ?_ ?_
      · rintro i v σ H1 H2 hi ⟨v1, v2, rfl, s1, hno⟩ ⟨tp, x1, x2, rfl, ntp, rfl, e1, e2⟩
        have e1 : some (V.int (i : Int)) = some x1 := e1
        have e2 : xs[i]? = some x2 := e2
        cases e1
        obtain ⟨d2, hd2, hv2⟩ := hall.get e2
        have s2 := Same.new s1 (o := .tup [.int (i : Int), x2]) ntp
        refine ⟨tp, _, rfl, SqT.of upd_same, rfl, _, _, rfl, _, _, rfl, rfl, ?_⟩
        refine ⟨_, rfl, _, rfl, ta, tags, x2, d2, rfl, Same.word s2 hta, hv2.same s2, ?_⟩
        have hi2 : i < ds.length := by omega
        have hbe : bd i = (!tagD tags d2 || (!tw && (ds.take i).any fun e => sameS e d2)) := by
          rw [hbd]
          cases tw with
          | true =>
            rw [if_pos rfl]
            unfold badWord
            rw [hd2]
            show (!tagD tags d2) = _
            cases tagD tags d2 <;> rfl
          | false =>
            rw [if_neg Bool.false_ne_true]
            unfold badSome
            rw [hd2]
            rfl
        have bad : bd i = true → ∀ H5, Same H H5 → ∀ p, H5 p = none → Q (.ref p) (upd H5 p (.lst [V.str (Str.ofString "subject"), .int (i : Int)])) := fun z H5 s5 p hp => by
          refine k p _ (Same.new s5 hp) (s5.free hp) ?_
          rw [upd_same, first_at hi2 z hno]
          rfl
        refine ⟨_, rfl, ?_⟩
        cases hn : tagD tags d2 with
        | false =>
          rw [hn] at hbe
          refine iteT ?_
          exact ⟨_, rfl, by show 2 ≤ sizeLine; decide, bad hbe _ s2⟩
        | true =>
          refine iteF ?_
          rw [hn] at hbe
          obtain ⟨t, rfl, _⟩ := tagD_str hn
          refine ⟨_, rfl, tw, rfl, ?_⟩
          cases tw with
          | true =>
            refine iteF (iteF ?_)
            refine ⟨_, _, rfl, s2, fun j hj => ?_⟩
            rcases Nat.lt_or_ge j i with z | z
            · exact hno j z
            · have : j = i := by omega
              subst this
              exact hbe
          | false =>
            refine iteT ?_
            obtain ⟨fl, fi⟩ := tags_flat (hall.take i) (tagsB i (Nat.le_of_lt hi2) hno)
            refine ⟨_, rfl, _, rfl, _, rfl, _, rfl, a, _, rfl, SqL.of (s2 _ _ ha), fun q hq => ?_⟩
            rw [cut_take]
            cases hv2
            refine ⟨q, _, rfl, .inl (SqL.of upd_same), rfl, fl, _, rfl, ?_⟩
            rw [if_neg Bool.false_ne_true, fi t]
            have s5 := Same.new s2 (o := .lst (xs.take i)) hq
            cases hin : (ds.take i).any fun e => sameS e (.str t) with
            | true =>
              rw [hin] at hbe
              refine iteT ?_
              exact ⟨_, rfl, by show 2 ≤ sizeLine; decide, bad hbe _ s5⟩
            | false =>
              rw [hin] at hbe
              refine iteF ⟨_, _, rfl, s5, fun j hj => ?_⟩
              rcases Nat.lt_or_ge j i with z | z
              · exact hno j z
              · have : j = i := by omega
                subst this
                exact hbe
      · rintro σ H1 ⟨v1, v2, rfl, s1, hno⟩
        refine ⟨by show 0 ≤ sizeLine; decide, fun p hp => ?_⟩
        refine k p _ (Same.new s1 hp) (s1.free hp) ?_
        rw [upd_same, first_none (fun i hi => hno i (by omega))]
        rfl
    | _ =>
      refine iteT ?_
      refine ⟨by show 2 ≤ sizeLine; decide, fun p hp => ?_⟩
      refine k p _ (same_new hp) hp ?_
      rw [upd_same]
      cases tw <;> rfl
theorem ok__law_tags_due (X : TX K mg) : FnOk P w K mg base CX0 3 X.d__law_tags_due.a X.d__law_tags_due.fd ["tags"]
    (fun vs H Q _ => ∃ (v : V) (d : PyData), vs = [v] ∧ Dv H v d ∧ d.weight ≤ 5000 ∧ ∀ p H', Same H H' → H p = none → H' p = some (.lst (dueL (tagsM d))) → Q (.ref p) H') := by
  have nd := sc__law_tags_due.nd
  refine X.d__law_tags_due.F.ok sc__law_tags_due (fun vs H Q E h => ?_) (fun cdv A outer s H vs Q E hr h => ?_)
  · obtain ⟨v, d, rfl, _⟩ := h
    rfl
  · obtain ⟨v, d, rfl, hv, zv, k⟩ := h
    refine ⟨_, (pss_cons (ps_if (PW.pt (pw_or (pt_not (pt_val (pe_callB (QB.call_isiK K) (by rfl) X.n_isinstance QB.bo_isinstance (pa_cons (pv 0) (pa_cons (pe_bltn (v := .ty "list") (by rfl) X.n_list QB.bo_list rfl) pa_nil))))) (pw_or (pt_cmpR (QV.op_eqNil hr.units) (pv 0) (pe_lst pa_nil) (nomark _)) (pw_or1 (pt_cmpR op_gt (pe_callB (QB.call_lenK K) (by rfl) X.n_len PySem.boot_len (pa_cons (pv 0) pa_nil)) pe_int (nomark _)))))) (pss_one (ps_ret (pe_lst (pa_cons pe_str (pa_cons pe_non pa_nil))))) pss_nil) (pss_cons (ps_set (i := 1) nd rfl (Or.inr rfl) pe_str) (pss_cons (ps_for PassesOwn.never rfl (QB.pi_enumK K (by rfl) X.n_enumerate (pa_cons (pv 0) pa_nil)) (pg_tup (by rfl) (pgs_cons (pg_name (i := 2) nd rfl (Or.inl rfl)) (pgs_cons (pg_name (i := 3) nd rfl (Or.inl rfl)) (pgs_nil)))) (pss_cons (ps_if (PW.pt (pw_or (pt_not (pt_val (pe_callB (QB.call_isiK K) (by rfl) X.n_isinstance QB.bo_isinstance (pa_cons (pv 3) (pa_cons (pe_bltn (v := .ty "str") (by rfl) X.n_str QB.bo_str rfl) pa_nil))))) (pw_or (pt_cmpR op_eq (pv 3) pe_str (nomark _)) (pw_or (pt_cmpR op_gt (pe_callB call_len_str (by rfl) X.n_len PySem.boot_len (pa_cons (pv 3) pa_nil)) pe_int (nomark _)) (pw_or1 (pt_cmpR (QB.op_inK K) (pv 3) (pe_slice (QB.sl_listK K) (pv 0) po_none (po_some (pv 2))) rfl)))))) (pss_one (ps_ret (pe_lst (pa_cons pe_str (pa_cons (pv 2) pa_nil))))) pss_nil) (pss_one (ps_if (pt_cmpR (QV.op_neNil hr.units) (pe_lc (own := [("letter", 4)]) (g := gName 4) rfl nd (pi_str (pv 3)) (blkOk_by (N := ["tags", "letters", "k", "thing", "letter"]) (sc := defScope s__law_tags_due) (by decide +kernel)) (fun _ _ _ _ _ => pg_name (i := 4) nd rfl (Or.inl rfl)) (fun _ _ _ _ _ => pts_one (pt_cmpR op_notIn_sign (pv 4) (pv 1) rfl)) (fun _ _ _ _ _ => (pv 4))) (pe_lst pa_nil) (nomark _)) (pss_one (ps_ret (pe_lst (pa_cons pe_str (pa_cons (pv 2) pa_nil))))) pss_nil)))) (pss_one (ps_ret (pe_lst pa_nil)))))), ?_⟩
    try dsimp only [Cx.nox, Cx.wish, cxOf]
    unfold tagsM at k
    refine ⟨_, rfl, _, _, _, _, isLD d, rfl, .ty "list", hv.ty K, kit_l d, isLD d, rfl, ?_⟩
    cases hv with
    | @lst a xs ds ha hall =>
      refine iteF ?_
      have hln := hall.len
      rw [w_list] at zv
      have z1 := all_len ds
      have no : ¬ (1 ≤ ds.length ∧ ds.length ≤ 6) → ∀ H1, Same H H1 → ∀ p, H1 p = none → Q (.ref p) (upd H1 p (.lst [V.str (Str.ofString "tags"), .non])) := fun hn H1 s1 p hp => by
        refine k p _ (Same.new s1 hp) (s1.free hp) ?_
        rw [upd_same, show tagsDue (.list ds) = some V.non from if_neg hn]
        rfl
      refine ⟨_, rfl, by show 0 ≤ sizeLine; decide, fun z hz0 => ?_⟩
      have sz := same_new (o := .lst ([] : List V)) hz0
      refine ⟨a, z, _, rfl, rfl, sz _ _ ha, upd_same, _, rfl, ?_⟩
      rw [if_neg Bool.false_ne_true]
      generalize upd H z (.lst []) = Hz at sz ⊢
      cases hxs : xs.isEmpty with
      | true =>
        refine iteT ?_
        refine ⟨by show 2 ≤ sizeLine; decide, fun p hp => ?_⟩
        exact no (by rw [hln, List.isEmpty_iff.mp hxs]; decide) _ sz p hp
      | false =>
      refine iteF ?_
      have pos : 1 ≤ xs.length := by
        cases xs with
        | nil => cases hxs
        | cons _ _ => rw [List.length_cons]; omega
      refine ⟨_, rfl, _, _, rfl, .inl (SqL.of (sz _ _ ha)), _, _, rfl, rfl, _, rfl, ?_⟩
      by_cases h6 : xs.length ≤ 6
      case neg =>
        rw [decide_eq_true (by omega)]
        refine iteT ?_
        refine ⟨by show 2 ≤ sizeLine; decide, fun p hp => ?_⟩
        exact no (by omega) _ sz p hp
      rw [decide_eq_false (by omega)]
      refine iteF ?_
      have due : tagsDue (.list ds) = idx (firstBad (badTag ds) ds.length) := if_pos (by omega)
      rw [due] at k
      refine ⟨_, rfl, _, _, rfl, SqL.of (sz _ _ ha), ?_⟩
      refine for_it (walk_enum (K := K) (a := a) (xs := xs)) (fun i σ H' => ∃ v1 v2, σ = [some (.ref a), some (.str letters), v1, v2, none] ∧ Same H H' ∧ ∀ j < i, badTag ds j = false) ⟨_, _, rfl, sz, fun j hj => by omega⟩ (fun i σ H' _ ⟨_, _, _, s1, _⟩ => SqL.of (s1 _ _ ha)) ?_ ?_
      · rintro i v σ H1 H2 hi ⟨v1, v2, rfl, s1, hno⟩ ⟨tp, x1, x2, rfl, ntp, rfl, e1, e2⟩
        have e1 : some (V.int (i : Int)) = some x1 := e1
        have e2 : xs[i]? = some x2 := e2
        cases e1
        obtain ⟨d2, hd2, hv2⟩ := hall.get e2
        have hm2 := List.mem_of_getElem? hd2
        have hw2 := all_mem hm2
        have s2 := Same.new s1 (o := .tup [.int (i : Int), x2]) ntp
        refine ⟨tp, _, rfl, SqT.of upd_same, rfl, _, _, rfl, _, _, rfl, rfl, ?_⟩
        generalize upd H1 tp (.tup [.int (i : Int), x2]) = H3 at s2 ⊢
        have hi2 : i < ds.length := by omega
        have before := names_before (by omega) hno
        have hb4 := hall.take i
        have hbe : badTag ds i = (!nameD d2 || (ds.take i).any fun e => sameS e d2) := by
          unfold badTag
          rw [hd2]
        have bad : badTag ds i = true → ∀ H5, Same H H5 → ∀ p, H5 p = none → Q (.ref p) (upd H5 p (.lst [V.str (Str.ofString "tags"), .int (i : Int)])) := fun z H5 s5 p hp => by
          refine k p _ (Same.new s5 hp) (s5.free hp) ?_
          rw [upd_same, first_at hi2 z hno]
          rfl
        have hv3 := hv2.same s2
        refine ⟨_, rfl, _, _, _, _, isSD d2, rfl, .ty "str", hv3.ty K, kit_s d2, isSD d2, rfl, ?_⟩
        cases hv3 with
        | str t =>
          refine iteF ?_
          rw [w_str] at hw2
          have nb : nameD (.str t) = (decide (1 ≤ t.length) && (decide (t.length ≤ 8) && t.cps.toList.all fun c => decide (c ∈ letters.cps.toList))) := rfl
          rw [nb] at hbe
          refine ⟨_, rfl, rfl, _, rfl, ?_⟩
          by_cases h0 : t = Str.ofString ""
          · subst h0
            rw [decide_eq_true rfl]
            refine iteT ?_
            exact ⟨_, rfl, by show 2 ≤ sizeLine; decide, bad hbe _ s2⟩
          rw [decide_eq_false (fun e => h0 (V.str.inj e))]
          refine iteF ?_
          have h1 : 1 ≤ t.length := by
            rcases Nat.eq_zero_or_pos t.length with q | q
            · exact absurd (by
                obtain ⟨c⟩ := t
                have e : c = #[] := Array.eq_empty_of_size_eq_zero q
                subst e
                rfl) h0
            · exact q
          rw [decide_eq_true h1] at hbe
          refine ⟨_, rfl, t, rfl, sz_le (by omega), _, _, rfl, rfl, _, rfl, ?_⟩
          by_cases h8 : t.length ≤ 8
          case neg =>
            rw [decide_eq_true (by omega)]
            rw [decide_eq_false h8] at hbe
            refine iteT ?_
            exact ⟨_, rfl, by show 2 ≤ sizeLine; decide, bad hbe _ s2⟩
          rw [decide_eq_false (by omega)]
          rw [decide_eq_true h8] at hbe
          refine iteF ?_
          refine ⟨_, rfl, _, rfl, _, rfl, _, rfl, a, _, rfl, SqL.of (s2 _ _ ha), fun q hq => ?_⟩
          rw [cut_take]
          refine ⟨q, _, rfl, .inl (SqL.of upd_same), rfl, names_flat hb4 before, _, rfl, ?_⟩
          rw [if_neg Bool.false_ne_true, names_in t hb4 before]
          have s5 := Same.new s2 (o := .lst (xs.take i)) hq
          generalize upd H3 q (.lst (xs.take i)) = H4 at s5 ⊢
          cases hin : (ds.take i).any fun e => sameS e (.str t) with
          | true =>
            rw [hin, Bool.or_true] at hbe
            refine iteT ?_
            exact ⟨_, rfl, by show 2 ≤ sizeLine; decide, bad hbe _ s5⟩
          | false =>
          rw [hin, Bool.or_false] at hbe
          refine iteF ?_
          refine ⟨_, rfl, t, rfl, fun D hD => ?_⟩
          have e0 : t.cps.size = t.cps.toList.length := rfl
          have e1 : t.cps.size = t.length := rfl
          refine lc_filter walk_str hD (by omega) (fun _ _ => True.intro) (fun i => ((t.cps.toList[i]?).map fun c => V.str ⟨#[c]⟩).getD .non) (fun i => ((t.cps.toList[i]?).map fun c => !decide (c ∈ letters.cps.toList)).getD false) ?_ ?_
          · rintro i x H5 H6 kk N hi s6 ⟨rfl, c, hc, rfl⟩ hk1 hk2
            have hc2 : t.cps.toList[i]? = some c := by simpa using hc
            rw [hc2] at hk1 hk2
            have hk1 : (!decide (c ∈ letters.cps.toList)) = true → ∀ H4, Same H6 H4 → kk (.str ⟨#[c]⟩) H4 := hk1
            have hk2 : (!decide (c ∈ letters.cps.toList)) = false → ∀ H4, Same H6 H4 → N H4 := hk2
            refine ⟨rfl, _, rfl, _, rfl, c, letters, rfl, rfl, _, rfl, ?_⟩
            cases q : (!decide (c ∈ letters.cps.toList)) with
            | true => exact iteT ⟨_, rfl, hk1 q _ (Same.refl _)⟩
            | false => exact iteF (hk2 q _ (Same.refl _))
          · intro H5 s6 e
            rw [e0, filter_range (fun c => !decide (c ∈ letters.cps.toList)) (fun c => .str ⟨#[c]⟩) _ _ t.cps.toList (fun i x hx => by rw [hx]; exact ⟨rfl, rfl⟩)] at e
            refine ⟨by show 0 ≤ sizeLine; decide, fun z hz0 => ?_⟩
            have s7 := same_new (o := .lst ([] : List V)) hz0
            refine ⟨D, z, _, rfl, rfl, s7 _ _ e, upd_same, _, rfl, ?_⟩
            have s8 := (s5.trans s6).trans s7
            generalize upd H5 z (.lst []) = H7 at s8 ⊢
            rw [if_pos rfl, empty_filter (fun c => decide (c ∈ letters.cps.toList))]
            cases q : t.cps.toList.all (fun c => decide (c ∈ letters.cps.toList)) with
            | false =>
              rw [q] at hbe
              refine iteT ?_
              exact ⟨_, rfl, by show 2 ≤ sizeLine; decide, bad hbe _ s8⟩
            | true =>
              rw [q] at hbe
              refine iteF ⟨_, _, rfl, s8, fun j hj => ?_⟩
              rcases Nat.lt_or_ge j i with z | z
              · exact hno j z
              · have : j = i := by omega
                subst this
                exact hbe
        | _ =>
          refine iteT ?_
          exact ⟨_, rfl, by show 2 ≤ sizeLine; decide, bad hbe _ s2⟩
      · rintro σ H1 ⟨v1, v2, rfl, s1, hno⟩
        refine ⟨by show 0 ≤ sizeLine; decide, fun p hp => ?_⟩
        refine k p _ (Same.new s1 hp) (s1.free hp) ?_
        rw [upd_same, first_none (fun i hi => hno i (by omega))]
        rfl
    | _ =>
      refine iteT ?_
      refine ⟨by show 2 ≤ sizeLine; decide, fun p hp => ?_⟩
      refine k p _ (same_new hp) hp ?_
      rw [upd_same]
      rfl
end
end Law
end

section
set_option Elab.async false
set_option linter.all false
set_option maxRecDepth 100000
set_option maxHeartbeats 4000000
namespace Law
open PySem PySem.Spec PyProof.Rows L2 LamX QB QM QV
def firstM : List DueM → DueM
  | [] => none
  | m :: ms => els m (firstM ms)
theorem els_none (m : DueM) : els m none = m := by
  cases m <;> rfl
section
variable {P : Program} {w : World} {K : PySem.W.Frag} {mg : Str → Option Value} {base : Heap}
theorem ok__law_pairs_due (X : TX K mg) : FnOk P w K mg base CX0 4 X.d__law_pairs_due.a X.d__law_pairs_due.fd ["tags", "thing"]
    (fun vs H Q _ => ∃ (a : Addr) (tags : List Str) (v : V) (d : PyData), vs = [.ref a, v] ∧ WordAt H a tags ∧ Dv H v d ∧ d.weight ≤ 5000 ∧ ∀ p H', Same H H' → H p = none → H' p = some (.lst (dueL (pairsM tags d))) → Q (.ref p) H') := by
  have nd := sc__law_pairs_due.nd
  refine X.d__law_pairs_due.F.ok sc__law_pairs_due (fun vs H Q E h => ?_) (fun cdv A outer s H vs Q E hr h => ?_)
  · obtain ⟨a, tags, v, d, rfl, _⟩ := h
    rfl
  · obtain ⟨ta, tags, v, d, rfl, hta, hd, hz, k⟩ := h
    refine ⟨_, (pss_cons (ps_if (pt_not (pt_val (pe_callB (QB.call_isiK K) (by rfl) X.n_isinstance QB.bo_isinstance (pa_cons (pv 1) (pa_cons (pe_bltn (v := .ty "list") (by rfl) X.n_list QB.bo_list rfl) pa_nil))))) (pss_one (ps_ret (pe_lst (pa_cons pe_str (pa_cons pe_non pa_nil))))) pss_nil) (pss_cons (ps_for PassesOwn.never rfl (QB.pi_enumK K (by rfl) X.n_enumerate (pa_cons (pv 1) pa_nil)) (pg_tup (by rfl) (pgs_cons (pg_name (i := 2) nd rfl (Or.inl rfl)) (pgs_cons (pg_name (i := 3) nd rfl (Or.inl rfl)) (pgs_nil)))) (pss_cons (ps_if (PW.pt (pw_or (pt_not (pt_val (pe_callB (QB.call_isiK K) (by rfl) X.n_isinstance QB.bo_isinstance (pa_cons (pv 3) (pa_cons (pe_bltn (v := .ty "tuple") (by rfl) X.n_tuple QB.bo_tuple rfl) pa_nil))))) (pw_or (pt_cmpR op_ne (pe_callB (QB.call_lenK K) (by rfl) X.n_len PySem.boot_len (pa_cons (pv 3) pa_nil)) pe_int (nomark _)) (pw_or1 (pt_cmpR (QV.op_neNil hr.units) (pe_lc (own := [("tag", 5)]) (g := gName 5) rfl nd (pi_tup (pv 3)) (blkOk_by (N := ["tags", "thing", "k", "pair", "other", "tag"]) (sc := defScope s__law_pairs_due) (by decide +kernel)) (fun _ _ _ _ _ => pg_name (i := 5) nd rfl (Or.inl rfl)) (fun _ _ _ _ _ => pts_one (pt_not (pt_val (pe_call (ok__law_is_tag X) (hr.mono (by decide)) rfl X.d__law_is_tag.mg X.d__law_is_tag.F.kp X.d__law_is_tag.b .nil pass0 (pa_cons (pv 0) (pa_cons (pv 5) pa_nil)))))) (fun _ _ _ _ _ => (pv 5))) (pe_lst pa_nil) (nomark _)))))) (pss_one (ps_ret (pe_lst (pa_cons pe_str (pa_cons (pv 2) pa_nil))))) pss_nil) (pss_one (ps_if (pt_cmpR (QB.op_inK K) (pe_ix (QB.ix_tupK K) (pv 3) pe_int (fun _ _ => rfl)) (pe_lc (own := [("other", 4)]) (g := gName 4) (tt := tYes) rfl nd (QB.pi_listK K (pe_slice (QB.sl_listK K) (pv 1) po_none (po_some (pv 2)))) (blkOk_by (N := ["tags", "thing", "k", "pair", "other", "tag"]) (sc := defScope s__law_pairs_due) (by decide +kernel)) (fun _ _ _ _ _ => pg_name (i := 4) nd rfl (Or.inl rfl)) (fun _ _ _ _ _ => pts_nil) (fun _ _ _ _ _ => (pe_ix (QB.ix_tupK K) (pv 4) pe_int (fun _ _ => rfl)))) rfl) (pss_one (ps_ret (pe_lst (pa_cons pe_str (pa_cons (pv 2) pa_nil))))) pss_nil)))) (pss_one (ps_ret (pe_lst pa_nil))))), ?_⟩
    try dsimp only [Cx.nox, Cx.wish, cxOf]
    unfold pairsM at k
    refine ⟨_, rfl, _, _, _, _, isLD d, rfl, .ty "list", hd.ty K, kit_l d, isLD d, rfl, ?_⟩
    cases hd with
    | @lst a xs ds ha hall =>
      refine iteF ?_
      have hln := hall.len
      rw [w_list] at hz
      have z1 := all_len ds
      have due : pairsDue tags (.list ds) = idx (firstBad (badPair tags ds) ds.length) := rfl
      rw [due] at k
      refine ⟨_, rfl, _, _, rfl, SqL.of ha, ?_⟩
      refine for_it (walk_enum (K := K) (a := a) (xs := xs)) (fun i σ H' => ∃ v1 v2, σ = [some (.ref ta), some (.ref a), v1, v2, none, none] ∧ Same H H' ∧ ∀ j < i, badPair tags ds j = false) ⟨none, none, rfl, Same.refl H, fun j hj => by omega⟩ (fun i σ H' _ ⟨_, _, _, s1, _⟩ => SqL.of (s1 _ _ ha)) ?_ ?_
      · rintro i v σ H1 H2 hi ⟨v1, v2, rfl, s1, hno⟩ ⟨tp, x1, x2, rfl, ntp, rfl, e1, e2⟩
        have e1 : some (V.int (i : Int)) = some x1 := e1
        have e2 : xs[i]? = some x2 := e2
        cases e1
        obtain ⟨d2, hd2, hv2⟩ := hall.get e2
        have hw2 := all_mem (List.mem_of_getElem? hd2)
        have s2 := Same.new s1 (o := .tup [.int (i : Int), x2]) ntp
        refine ⟨tp, _, rfl, SqT.of upd_same, rfl, _, _, rfl, _, _, rfl, rfl, ?_⟩
        generalize upd H1 tp (.tup [.int (i : Int), x2]) = H3 at s2 ⊢
        have hi2 : i < ds.length := by omega
        have hbe : badPair tags ds i = (!pairD tags d2 || (ds.take i).any fun e => sameS (fstD e) (fstD d2)) := by
          unfold badPair
          rw [hd2]
        have bad : badPair tags ds i = true → ∀ H5, Same H H5 → ∀ p, H5 p = none → Q (.ref p) (upd H5 p (.lst [V.str (Str.ofString "pairs"), .int (i : Int)])) := fun z H5 s5 p hp => by
          refine k p _ (Same.new s5 hp) (s5.free hp) ?_
          rw [upd_same, first_at hi2 z hno]
          rfl
        have hv3 := hv2.same s2
        refine ⟨_, rfl, _, _, _, _, isTD d2, rfl, .ty "tuple", hv3.ty K, kit_t d2, isTD d2, rfl, ?_⟩
        cases hv3 with
        | @tup x ys es hx hys =>
          refine iteF ?_
          have hl2 := hys.len
          rw [w_tuple] at hw2
          have z2 := all_len es
          refine ⟨_, rfl, _, _, rfl, .inr (SqT.of hx), rfl, _, rfl, ?_⟩
          by_cases h2 : ys.length = 2
          case neg =>
            rw [decide_eq_false (fun e => h2 (by injection e with e; omega))]
            refine iteT ?_
            have e : pairD tags (.tuple es) = false := by
              match es, hl2 with
              | [], _ => rfl
              | [_], _ => rfl
              | [_, _], h => exact absurd h.symm h2
              | _ :: _ :: _ :: _, _ => rfl
            rw [e] at hbe
            exact ⟨_, rfl, by show 2 ≤ sizeLine; decide, bad hbe _ s2⟩
          rw [decide_eq_true (show V.int (ys.length : Int) = V.int 2 by rw [h2]; rfl)]
          refine iteF ?_
          refine ⟨_, rfl, _, rfl, ⟨_, SqT.of hx⟩, fun D hD => ?_⟩
          refine lc_filter (walk_tup (K := K) (a := x) (xs := ys)) hD (by omega) (fun H4 s4 => SqT.of (s4 _ _ hx)) (fun i => (ys[i]?).getD .non) (fun i => ((es[i]?).map fun d => !tagD tags d).getD false) ?_ ?_
          · rintro j y H4 H5 kk N hj s4 ⟨rfl, hy⟩ hk1 hk2
            obtain ⟨d, hd, hv⟩ := hys.get hy
            rw [hd] at hk1 hk2
            rw [hy] at hk1
            have hk1 : (!tagD tags d) = true → ∀ H4, Same H5 H4 → kk y H4 := hk1
            have hk2 : (!tagD tags d) = false → ∀ H4, Same H5 H4 → N H4 := hk2
            refine ⟨rfl, _, rfl, _, rfl, ta, tags, y, d, rfl, Same.word (s2.trans s4) hta, hv.same s4, ?_⟩
            refine ⟨_, rfl, ?_⟩
            cases q : tagD tags d with
            | false =>
              rw [q] at hk1
              exact iteT ⟨_, rfl, hk1 rfl _ (Same.refl _)⟩
            | true =>
              rw [q] at hk2
              exact iteF (hk2 rfl _ (Same.refl _))
          · intro H4 s4 e
            refine ⟨by show 0 ≤ sizeLine; decide, fun z hz0 => ?_⟩
            have s5 := same_new (o := .lst ([] : List V)) hz0
            refine ⟨D, z, _, rfl, rfl, s5 _ _ e, upd_same, _, rfl, ?_⟩
            have s6 := s2.trans (s4.trans s5)
            have hx6 := s5 _ _ (s4 _ _ hx)
            generalize upd H4 z (.lst []) = H5 at s6 hx6 ⊢
            rw [if_pos rfl, flt_len (tagD tags) _ _ hys (fun i d hd => by rw [hd]; rfl)]
            have pe : pairD tags (.tuple es) = es.all (tagD tags) := by
              match es, hl2 with
              | [], h => exact absurd h (by rw [h2]; decide)
              | [_], h => exact absurd h (by rw [h2]; exact fun z => absurd z (by show ¬ (1 = 2); decide))
              | [d1, d2], _ =>
                show (tagD tags d1 && tagD tags d2) = (tagD tags d1 && (tagD tags d2 && true))
                rw [Bool.and_true]
              | _ :: _ :: _ :: _, h => exact absurd h (by rw [h2, List.length_cons, List.length_cons, List.length_cons]; omega)
            rw [pe] at hbe
            cases qs : es.all (tagD tags) with
            | false =>
              rw [qs] at hbe
              refine iteT ?_
              exact ⟨_, rfl, by show 2 ≤ sizeLine; decide, bad hbe _ s6⟩
            | true =>
            refine iteF ?_
            rw [qs] at hbe
            have hn : pairD tags (.tuple es) = true := by rw [pe, qs]
            obtain ⟨p, ep, _⟩ := pairD_to hn
            have before := pair_before (tags := tags) (Nat.le_of_lt hi2) hno
            obtain ⟨us, eu, _⟩ := pairs_strs before
            have fe : fstD (.tuple es) = .str p.1 := by rw [ep]; rfl
            rw [fe, eu, firsts_any] at hbe
            unfold pairPD at ep
            injection ep with ep
            subst ep
            cases hys with
            | cons hy1 hys =>
            cases hys with
            | cons hy2 hys =>
            cases hys
            cases hy1
            cases hy2
            refine ⟨_, rfl, x, _, 0, .str p.1, rfl, rfl, SqT.of hx6, rfl, ?_⟩
            refine ⟨_, rfl, _, rfl, _, rfl, a, _, rfl, SqL.of (s6 _ _ ha), fun q hq => ?_⟩
            rw [cut_take]
            have s7 := Same.new s6 (o := .lst (xs.take i)) hq
            have kq : (upd H5 q (.lst (xs.take i))) q = some (.lst (xs.take i)) := upd_same
            generalize upd H5 q (.lst (xs.take i)) = H6 at s7 kq ⊢
            have hallT := hall.take i
            rw [eu] at hallT
            have tl : (xs.take i).length = us.length := by rw [← hallT.len, List.length_map]
            have ul : us.length = i := by rw [← tl, List.length_take]; omega
            refine ⟨q, rfl, ⟨_, SqL.of kq⟩, fun D2 hD2 => ?_⟩
            refine lc_map (walk_list (K := K) (a := q) (xs := xs.take i)) hD2 (by rw [tl, ul]; omega) (fun H7 s8 => SqL.of (s8 _ _ kq)) (fun j => .str (((us[j]?).map (·.1)).getD "")) ?_ ?_
            · rintro j y H7 H8 kk hj s8 ⟨rfl, hy⟩ hk
              obtain ⟨d, hd, hv⟩ := hallT.get hy
              have hk := hk _ (Same.refl _)
              rw [List.getElem?_map] at hd
              cases hu : us[j]? with
              | none =>
                rw [hu] at hd
                cases hd
              | some u =>
                rw [hu] at hd hk
                have hd : pairPD u = d := Option.some.inj hd
                subst hd
                have hv := hv.same (s7.trans s8)
                unfold pairPD at hv
                cases hv with
                | @tup x5 ys5 _ hx5 hys5 =>
                cases hys5 with
                | cons hz1 hys5 =>
                cases hys5 with
                | cons hz2 hys5 =>
                cases hys5
                cases hz1
                cases hz2
                exact ⟨rfl, _, rfl, x5, _, 0, .str u.1, rfl, rfl, SqT.of hx5, rfl, hk⟩
            · intro H7 s8 e7
              obtain ⟨fs, hfs⟩ : ∃ fs : Word, fs = us.map (·.1) := ⟨_, rfl⟩
              have w7 : WordAt H7 D2 fs := by
                unfold WordAt vS
                rw [e7, tl, range_map_get _ us (fun u => .str u.1) (fun i x hx => by rw [hx]; rfl), hfs, List.map_map]
                rfl
              rw [← hfs] at hbe
              have s9 := s7.trans s8
              refine ⟨D2, vS fs, rfl, .inl (SqL.of w7), rfl, vS_flat, _, rfl, ?_⟩
              rw [if_neg Bool.false_ne_true, inV_word]
              by_cases hin : p.1 ∈ fs
              · rw [decide_eq_true hin] at hbe ⊢
                refine iteT ?_
                exact ⟨_, rfl, by show 2 ≤ sizeLine; decide, bad hbe _ s9⟩
              · rw [decide_eq_false hin] at hbe ⊢
                refine iteF ⟨_, _, rfl, s9, fun j hj => ?_⟩
                rcases Nat.lt_or_ge j i with z | z
                · exact hno j z
                · have : j = i := by omega
                  subst this
                  exact hbe
        | _ =>
          refine iteT ?_
          exact ⟨_, rfl, by show 2 ≤ sizeLine; decide, bad hbe _ s2⟩
      · rintro σ H1 ⟨v1, v2, rfl, s1, hno⟩
        refine ⟨by show 0 ≤ sizeLine; decide, fun p hp => ?_⟩
        refine k p _ (Same.new s1 hp) (s1.free hp) ?_
        rw [upd_same, first_none (fun i hi => hno i (by omega))]
        rfl
    | _ =>
      refine iteT ?_
      refine ⟨by show 2 ≤ sizeLine; decide, fun p hp => ?_⟩
      refine k p _ (same_new hp) hp ?_
      rw [upd_same]
      rfl
end
end Law
end

section
set_option Elab.async false
set_option linter.all false
set_option maxRecDepth 100000
set_option maxHeartbeats 4000000
namespace Law
open PySem PySem.Spec PyProof.Rows L2 LamX QB QM QV
/-- what was found to be due so far, in a list at D -/
structure Found (H H' : Hp) (D : Addr) (qs : List Addr) (ms : List DueM) : Prop where
  s : Same H H'
  n : H D = none
  at_ : H' D = some (.lst (qs.map V.ref))
  all : Paired (fun q m => q ≠ D ∧ H' q = some (.lst (dueL m))) qs ms
  few : qs.length ≤ 5
theorem Found.same {H H1 H2 : Hp} {D : Addr} {qs : List Addr} {ms : List DueM} (f : Found H H1 D qs ms) (x : Same H1 H2) : Found H H2 D qs ms := ⟨f.s.trans x, f.n, x _ _ f.at_, L2.Paired.mapP f.all fun _ _ z => ⟨z.1, x _ _ z.2⟩, f.few⟩
theorem Found.push {H H1 H2 : Hp} {D q : Addr} {qs : List Addr} {ms : List DueM} {m : DueM} (f : Found H H1 D qs ms) (x : Same H1 H2) (nq : H1 q = none) (hq : H2 q = some (.lst (dueL m))) (l : qs.length ≤ 4) :
    Found H (upd H2 D (.lst (qs.map V.ref ++ [V.ref q]))) D (qs ++ [q]) (ms ++ [m]) := by
  have g := f.same x
  have qD : q ≠ D := (ne_of_none f.at_ nq).symm
  refine ⟨Same.mut g.s f.n, f.n, by rw [upd_same, List.map_append]; rfl, Paired.snoc (L2.Paired.mapP g.all fun _ _ z => ⟨z.1, (upd_ne z.1).trans z.2⟩) ⟨qD, (upd_ne qD).trans hq⟩, by rw [List.length_append]; show _ + 1 ≤ 5; omega⟩
theorem dueL_empty (m : DueM) : (dueL m).isEmpty = m.isNone := by
  cases m <;> rfl
/-- the first that is due -/
theorem first_zip {H : Hp} {D : Addr} : ∀ {qs : List Addr} {ms : List DueM}, Paired (fun q m => q ≠ D ∧ H q = some (.lst (dueL m))) qs ms →
    ((qs.zip ms).filter fun z => !z.2.isNone) = [] ∧ firstM ms = none ∨ ∃ q r, ((qs.zip ms).filter fun z => !z.2.isNone) = (q, firstM ms) :: r ∧ H q = some (.lst (dueL (firstM ms)))
  | _, _, .nil => .inl ⟨rfl, rfl⟩
  | q :: qs, m :: ms, .cons h r => by
    rw [List.zip_cons_cons, List.filter_cons]
    cases m with
    | none =>
      rcases first_zip r with ⟨a, b⟩ | ⟨q', r', a, b⟩
      · exact .inl ⟨a, b⟩
      · exact .inr ⟨q', r', a, b⟩
    | some x => exact .inr ⟨q, _, rfl, h.2⟩
section
variable {P : Program} {w : World} {K : PySem.W.Frag} {mg : Str → Option Value} {base : Heap}
theorem ok__law_due (X : TX K mg) : FnOk P w K mg base CX0 5 X.d__law_due.a X.d__law_due.fd ["way", "tags", "one", "two"]
    (fun vs H Q _ => ∃ (way : Nat) (v y z : V) (dv dy dz : PyData), vs = [.int (way : Int), v, y, z] ∧ way ≤ 5 ∧ Dv H v dv ∧ Dv H y dy ∧ Dv H z dz ∧ dv.weight ≤ 5000 ∧ dy.weight ≤ 5000 ∧
      ∀ p H', Same H H' → H' p = some (.lst (dueL (wayM way dv y dy z dz))) → Q (.ref p) H') := by
  have nd := sc__law_due.nd
  refine X.d__law_due.F.ok sc__law_due (fun vs H Q E h => ?_) (fun cdv A outer s0 H vs Q E hr h => ?_)
  · obtain ⟨way, v, y, z, dv, dy, dz, rfl, _⟩ := h
    rfl
  · obtain ⟨way, v, y, z, dv, dy, dz, rfl, hway, hv, hy, hz, zv, zy, k⟩ := h
    refine ⟨_, (pss_cons (ps_set (i := 4) nd rfl (Or.inl rfl) (pe_lst (pa_cons (pe_call (ok__law_tags_due X) (hr.mono (by decide)) rfl X.d__law_tags_due.mg X.d__law_tags_due.F.kp X.d__law_tags_due.b .nil pass0 (pa_cons (pv 1) pa_nil)) pa_nil))) (pss_cons (ps_if (pt_cmpR (QV.op_neNil hr.units) (pe_ix (QB.ix_listK K) (pv 4) pe_int (fun _ _ => rfl)) (pe_lst pa_nil) (nomark _)) (pss_one (ps_ret (pe_ix (QB.ix_listK K) (pv 4) pe_int (fun _ _ => rfl)))) pss_nil) (pss_cons (ps_if (pt_cmpR op_eq (pv 0) pe_int (nomark _)) (pss_one (ps_expr (QB.pe_bmK K PySem.F.plainAttrs_list PySem.F.slot_list_append PySem.F.type_list_append mt_append (pv 4) (pa_cons (pe_call (ok__law_list_due X) (hr.mono (by decide)) rfl X.d__law_list_due.mg X.d__law_list_due.F.kp X.d__law_list_due.b .nil pass0 (pa_cons (pv 1) (pa_cons (pv 2) (pa_cons pe_int (pa_cons pe_bl pa_nil))))) pa_nil)))) pss_nil) (pss_cons (ps_if (pt_cmpR op_eq (pv 0) pe_int (nomark _)) (pss_one (ps_expr (QB.pe_bmK K PySem.F.plainAttrs_list PySem.F.slot_list_append PySem.F.type_list_append mt_append (pv 4) (pa_cons (pe_call (ok__law_list_due X) (hr.mono (by decide)) rfl X.d__law_list_due.mg X.d__law_list_due.F.kp X.d__law_list_due.b .nil pass0 (pa_cons (pv 1) (pa_cons (pv 2) (pa_cons pe_int (pa_cons pe_bl pa_nil))))) pa_nil)))) pss_nil) (pss_cons (ps_if (PW.pt (pw_and (pt_cmpR (QB.op_inK K) (pv 0) (pe_lst (pa_cons pe_int (pa_cons pe_int pa_nil))) rfl) (pw_and1 (pt_not (pt_val (pe_call (ok__law_is_tag X) (hr.mono (by decide)) rfl X.d__law_is_tag.mg X.d__law_is_tag.F.kp X.d__law_is_tag.b .nil pass0 (pa_cons (pv 1) (pa_cons (pv 2) pa_nil)))))))) (pss_one (ps_expr (QB.pe_bmK K PySem.F.plainAttrs_list PySem.F.slot_list_append PySem.F.type_list_append mt_append (pv 4) (pa_cons (pe_lst (pa_cons pe_str (pa_cons (pv 2) pa_nil))) pa_nil)))) pss_nil) (pss_cons (ps_if (pt_cmpR op_eq (pv 0) pe_int (nomark _)) (pss_one (ps_expr (QB.pe_bmK K PySem.F.plainAttrs_list PySem.F.slot_list_append PySem.F.type_list_append mt_append (pv 4) (pa_cons (pe_call (ok__law_pairs_due X) (hr.mono (by decide)) rfl X.d__law_pairs_due.mg X.d__law_pairs_due.F.kp X.d__law_pairs_due.b .nil pass0 (pa_cons (pv 1) (pa_cons (pv 2) pa_nil))) pa_nil)))) pss_nil) (pss_cons (ps_if (PW.pt (pw_or (pt_cmpR op_eq (pv 0) pe_int (nomark _)) (pw_or1 (PW.pt (pw_and (pt_cmpR op_eq (pv 0) pe_int (nomark _)) (pw_and1 (pt_cmpR op_notN (pv 3) pe_non (nomark _)))))))) (pss_one (ps_expr (QB.pe_bmK K PySem.F.plainAttrs_list PySem.F.slot_list_append PySem.F.type_list_append mt_append (pv 4) (pa_cons (pe_call (ok__law_number_due X) (hr.mono (by decide)) rfl X.d__law_number_due.mg X.d__law_number_due.F.kp X.d__law_number_due.b .nil pass0 (pa_cons (pv 3) pa_nil)) pa_nil)))) pss_nil) (pss_one (ps_ret (pe_ix (QB.ix_listK K) (pe_op op_cat (pe_lc (own := [("due", 5)]) (g := gName 5) rfl nd (QB.pi_listK K (pv 4)) (blkOk_by (N := ["way", "tags", "one", "two", "found", "due"]) (sc := defScope s__law_due) (by decide +kernel)) (fun _ _ _ _ _ => pg_name (i := 5) nd rfl (Or.inl rfl)) (fun _ _ _ _ _ => pts_one (pt_cmpR (QV.op_neNil hr.units) (pv 5) (pe_lst pa_nil) (nomark _))) (fun _ _ _ _ _ => (pv 5))) (pe_lst (pa_cons (pe_lst pa_nil) pa_nil))) pe_int (fun _ _ => rfl))))))))))), ?_⟩
    try dsimp only [Cx.nox, Cx.wish, cxOf]
    refine ⟨_, rfl, v, dv, rfl, hv, zv, fun p1 H1 s1 np1 hp1 => ?_⟩
    refine ⟨by show 1 ≤ sizeLine; decide, fun D hD => ?_⟩
    have f1 : Found H (upd H1 D (.lst [V.ref p1])) D [p1] [tagsM dv] := by
      have pD : p1 ≠ D := ne_of_none hp1 hD
      exact ⟨Same.new s1 hD, s1.free hD, upd_same, .cons ⟨pD, (upd_ne pD).trans hp1⟩ .nil, by show 1 ≤ 5; decide⟩
    have hp2 : (upd H1 D (.lst [V.ref p1])) p1 = some (.lst (dueL (tagsM dv))) := (same_new hD) _ _ hp1
    generalize upd H1 D (.lst [V.ref p1]) = H2 at f1 hp2 ⊢
    refine ⟨_, rfl, D, _, 0, .ref p1, rfl, rfl, SqL.of f1.at_, rfl, by show 0 ≤ sizeLine; decide, fun e hE => ?_⟩
    have s2 := same_new (o := .lst ([] : List V)) hE
    refine ⟨p1, e, _, rfl, rfl, s2 _ _ hp2, upd_same, _, rfl, ?_⟩
    rw [if_pos rfl, dueL_empty]
    have f2 := f1.same s2
    have hp3 := s2 _ _ hp2
    generalize upd H2 e (.lst []) = H3 at f2 hp3 ⊢
    clear f1 hp2 s2 hE hp1 np1 s1 hD
    cases htg : tagsM dv with
    | some x =>
      refine iteT ?_
      have ew : wayM way dv y dy z dz = some x := by
        rcases (by omega : way = 0 ∨ way = 1 ∨ way = 2 ∨ way = 3 ∨ way = 4 ∨ way = 5) with rfl | rfl | rfl | rfl | rfl | rfl
        · exact htg
        · show els (tagsM dv) _ = _
          rw [htg]
          rfl
        · show els (tagsM dv) _ = _
          rw [htg]
          rfl
        · show els (tagsM dv) _ = _
          rw [htg]
          rfl
        · show els (tagsM dv) _ = _
          rw [htg]
          rfl
        · show els (tagsM dv) _ = _
          rw [htg]
          rfl
      rw [ew] at k
      rw [htg] at hp3
      exact ⟨_, rfl, D, _, 0, .ref p1, rfl, rfl, SqL.of f2.at_, rfl, k p1 _ f2.s hp3⟩
    | none =>
    refine iteF ?_
    rw [htg] at f2
    have hdv : tagsDue dv = none := by
      unfold tagsM at htg
      cases h : tagsDue dv with
      | none => rfl
      | some _ =>
        rw [h] at htg
        cases htg
    obtain ⟨a, tags, rfl, ha, to, rfl⟩ := tags_of hv hdv
    have ti := tagsIn_strs tags
    have k : ∀ ms : List DueM, firstM ms = wayM way (.list (tags.map .str)) y dy z dz → ∀ p H', Same H H' → H' p = some (.lst (dueL (firstM ms))) → Q (.ref p) H' := fun ms e p H' s' h => k p H' s' (by rw [← e]; exact h)
    clear hp3
    have f := f2
    clear f2
    have sz9 : ∀ {qs : List Addr}, qs.length ≤ 5 → (qs.map V.ref).length < sizeLine := fun h => by
      rw [List.length_map]
      exact sz_lt (by omega)
    rcases (by omega : way = 0 ∨ way = 1 ∨ way = 2 ∨ way = 3 ∨ way = 4 ∨ way = 5) with rfl | rfl | rfl | rfl | rfl | rfl
    case' inl =>
      refine ⟨_, rfl, rfl, _, rfl, ?_⟩
      rw [ne_way (by decide)]
      refine iteF ?_
      refine ⟨_, rfl, rfl, _, rfl, ?_⟩
      rw [ne_way (by decide)]
      refine iteF ?_
      refine ⟨_, rfl, by show 2 ≤ sizeLine; decide, fun e5 h5 => ?_⟩
      have f := f.same (same_new (o := .lst [V.int 3, V.int 5]) h5)
      refine ⟨e5, [V.int 3, V.int 5], rfl, .inl (SqL.of upd_same), rfl, rfl, _, rfl, ?_⟩
      generalize upd H3 e5 (.lst [V.int 3, V.int 5]) = K5 at f ⊢
      rw [if_neg Bool.false_ne_true, show inV (V.int (((0 : Nat)) : Int)) [V.int 3, V.int 5] = false by decide +kernel]
      refine iteF ?_
      refine ⟨_, rfl, rfl, _, rfl, ?_⟩
      rw [ne_way (by decide)]
      refine iteF ?_
      refine ⟨_, rfl, rfl, _, rfl, ?_⟩
      rw [ne_way (by decide)]
      refine iteF ?_
      refine ⟨_, rfl, rfl, _, rfl, ?_⟩
      rw [ne_way (by decide)]
      refine iteF ?_
      generalize K5 = Hz at f ⊢
      have k := k [none] (by rw [show wayM 0 (.list (tags.map .str)) y dy z dz = tagsM (.list (tags.map .str)) from rfl, htg]; rfl)
    case' inr.inl =>
      refine ⟨_, rfl, rfl, _, rfl, ?_⟩
      rw [decide_eq_true (show V.int (((1 : Nat)) : Int) = V.int 1 from rfl)]
      refine iteT ?_
      refine ⟨_, rfl, .inl ⟨rfl, _, SqL.of f.at_⟩, _, rfl, _, rfl, a, tags, y, dy, 8, true, rfl, Same.word f.s ha, hy.same f.s, zy, (fun h => nomatch h), fun q6 K6 s6 nq6 hq6 => ?_⟩
      have g := f.push s6 nq6 hq6 (by show 1 ≤ 4; decide)
      refine ⟨D, _, _, rfl, rfl, (f.same s6).at_, sz9 f.few, ?_⟩
      generalize upd K6 D _ = G6 at g ⊢
      have f := g
      clear g
      refine ⟨_, rfl, rfl, _, rfl, ?_⟩
      rw [ne_way (by decide)]
      refine iteF ?_
      refine ⟨_, rfl, by show 2 ≤ sizeLine; decide, fun e7 h7 => ?_⟩
      have f := f.same (same_new (o := .lst [V.int 3, V.int 5]) h7)
      refine ⟨e7, [V.int 3, V.int 5], rfl, .inl (SqL.of upd_same), rfl, rfl, _, rfl, ?_⟩
      generalize upd G6 e7 (.lst [V.int 3, V.int 5]) = K7 at f ⊢
      rw [if_neg Bool.false_ne_true, show inV (V.int (((1 : Nat)) : Int)) [V.int 3, V.int 5] = false by decide +kernel]
      refine iteF ?_
      refine ⟨_, rfl, rfl, _, rfl, ?_⟩
      rw [ne_way (by decide)]
      refine iteF ?_
      refine ⟨_, rfl, rfl, _, rfl, ?_⟩
      rw [ne_way (by decide)]
      refine iteF ?_
      refine ⟨_, rfl, rfl, _, rfl, ?_⟩
      rw [ne_way (by decide)]
      refine iteF ?_
      generalize K7 = Hz at f ⊢
      have k := k [none, wordM tags 8 dy] (by show els none (els (wordM tags 8 dy) none) = els (tagsM _) (wordM (tagsIn _) 8 dy); rw [htg, ti, els_none])
    case' inr.inr.inl =>
      refine ⟨_, rfl, rfl, _, rfl, ?_⟩
      rw [ne_way (by decide)]
      refine iteF ?_
      refine ⟨_, rfl, rfl, _, rfl, ?_⟩
      rw [decide_eq_true (show V.int (((2 : Nat)) : Int) = V.int 2 from rfl)]
      refine iteT ?_
      refine ⟨_, rfl, .inl ⟨rfl, _, SqL.of f.at_⟩, _, rfl, _, rfl, a, tags, y, dy, 5000, false, rfl, Same.word f.s ha, hy.same f.s, zy, (fun _ => rfl), fun q8 K8 s8 nq8 hq8 => ?_⟩
      have g := f.push s8 nq8 hq8 (by show 1 ≤ 4; decide)
      refine ⟨D, _, _, rfl, rfl, (f.same s8).at_, sz9 f.few, ?_⟩
      generalize upd K8 D _ = G8 at g ⊢
      have f := g
      clear g
      refine ⟨_, rfl, by show 2 ≤ sizeLine; decide, fun e9 h9 => ?_⟩
      have f := f.same (same_new (o := .lst [V.int 3, V.int 5]) h9)
      refine ⟨e9, [V.int 3, V.int 5], rfl, .inl (SqL.of upd_same), rfl, rfl, _, rfl, ?_⟩
      generalize upd G8 e9 (.lst [V.int 3, V.int 5]) = K9 at f ⊢
      rw [if_neg Bool.false_ne_true, show inV (V.int (((2 : Nat)) : Int)) [V.int 3, V.int 5] = false by decide +kernel]
      refine iteF ?_
      refine ⟨_, rfl, rfl, _, rfl, ?_⟩
      rw [ne_way (by decide)]
      refine iteF ?_
      refine ⟨_, rfl, rfl, _, rfl, ?_⟩
      rw [ne_way (by decide)]
      refine iteF ?_
      refine ⟨_, rfl, rfl, _, rfl, ?_⟩
      rw [decide_eq_true (show V.int (((2 : Nat)) : Int) = V.int 2 from rfl)]
      refine iteT ?_
      refine ⟨_, rfl, rfl, _, rfl, ?_⟩
      rw [dv_none (hz.same f.s)]
      have ew : wayM 2 (.list (tags.map .str)) y dy z dz = els none (els (someM tags dy) (if noneD dz = true then none else numM z dz)) := by
        show els (tagsM _) (els (someM (tagsIn _) dy) _) = _
        rw [htg, ti]
      cases hnz : noneD dz
      case' true =>
        refine iteF ?_
        rw [hnz, if_pos rfl] at ew
        generalize K9 = Hz at f ⊢
        have k := k [none, someM tags dy] (by rw [ew]; rfl)
      case' false =>
        refine iteT ?_
        rw [hnz, if_neg Bool.false_ne_true] at ew
        refine ⟨_, rfl, .inl ⟨rfl, _, SqL.of f.at_⟩, _, rfl, z, dz, rfl, hz.same f.s, fun q10 K10 s10 nq10 hq10 => ?_⟩
        have g := f.push s10 nq10 hq10 (by show 2 ≤ 4; decide)
        refine ⟨D, _, _, rfl, rfl, (f.same s10).at_, sz9 f.few, ?_⟩
        generalize upd K10 D _ = G10 at g ⊢
        have f := g
        clear g
        generalize G10 = Hz at f ⊢
        have k := k [none, someM tags dy, numM z dz] (by rw [ew]; show els none (els (someM tags dy) (els (numM z dz) none)) = _; rw [els_none])
    case' inr.inr.inr.inl =>
      refine ⟨_, rfl, rfl, _, rfl, ?_⟩
      rw [ne_way (by decide)]
      refine iteF ?_
      refine ⟨_, rfl, rfl, _, rfl, ?_⟩
      rw [ne_way (by decide)]
      refine iteF ?_
      refine ⟨_, rfl, by show 2 ≤ sizeLine; decide, fun e11 h11 => ?_⟩
      have f := f.same (same_new (o := .lst [V.int 3, V.int 5]) h11)
      refine ⟨e11, [V.int 3, V.int 5], rfl, .inl (SqL.of upd_same), rfl, rfl, _, rfl, ?_⟩
      generalize upd H3 e11 (.lst [V.int 3, V.int 5]) = K11 at f ⊢
      rw [if_neg Bool.false_ne_true, show inV (V.int (((3 : Nat)) : Int)) [V.int 3, V.int 5] = true by decide +kernel]
      refine iteT ?_
      refine ⟨_, rfl, _, rfl, a, tags, y, dy, rfl, Same.word f.s ha, hy.same f.s, ?_⟩
      refine ⟨_, rfl, ?_⟩
      have ew : wayM 3 (.list (tags.map .str)) y dy z dz = els none (tagM tags y dy) := by
        show els (tagsM _) (tagM (tagsIn _) y dy) = _
        rw [htg, ti]
      unfold tagM at ew
      cases hty : tagD tags dy
      case' true =>
        refine iteF ?_
        rw [hty, if_pos rfl] at ew
        refine ⟨_, rfl, rfl, _, rfl, ?_⟩
        rw [ne_way (by decide)]
        refine iteF ?_
        refine ⟨_, rfl, rfl, _, rfl, ?_⟩
        rw [ne_way (by decide)]
        refine iteF ?_
        refine ⟨_, rfl, rfl, _, rfl, ?_⟩
        rw [ne_way (by decide)]
        refine iteF ?_
        generalize K11 = Hz at f ⊢
        have k := k [none] (by rw [ew]; rfl)
      case' false =>
        refine iteT ?_
        rw [hty, if_neg Bool.false_ne_true] at ew
        refine ⟨_, rfl, .inl ⟨rfl, _, SqL.of f.at_⟩, _, rfl, by show 2 ≤ sizeLine; decide, fun q13 nq13 => ?_⟩
        have s13 := same_new (o := .lst [V.str (Str.ofString "tag"), y]) nq13
        have g := f.push (m := some (K5.tag, y)) s13 nq13 upd_same (by show 1 ≤ 4; decide)
        refine ⟨D, _, _, rfl, rfl, (f.same s13).at_, sz9 f.few, ?_⟩
        generalize upd (upd K11 q13 _) D _ = G13 at g ⊢
        have f := g
        clear g
        refine ⟨_, rfl, rfl, _, rfl, ?_⟩
        rw [ne_way (by decide)]
        refine iteF ?_
        refine ⟨_, rfl, rfl, _, rfl, ?_⟩
        rw [ne_way (by decide)]
        refine iteF ?_
        refine ⟨_, rfl, rfl, _, rfl, ?_⟩
        rw [ne_way (by decide)]
        refine iteF ?_
        generalize G13 = Hz at f ⊢
        have k := k [none, some (K5.tag, y)] (by rw [ew]; rfl)
    case' inr.inr.inr.inr.inl =>
      refine ⟨_, rfl, rfl, _, rfl, ?_⟩
      rw [ne_way (by decide)]
      refine iteF ?_
      refine ⟨_, rfl, rfl, _, rfl, ?_⟩
      rw [ne_way (by decide)]
      refine iteF ?_
      refine ⟨_, rfl, by show 2 ≤ sizeLine; decide, fun e14 h14 => ?_⟩
      have f := f.same (same_new (o := .lst [V.int 3, V.int 5]) h14)
      refine ⟨e14, [V.int 3, V.int 5], rfl, .inl (SqL.of upd_same), rfl, rfl, _, rfl, ?_⟩
      generalize upd H3 e14 (.lst [V.int 3, V.int 5]) = K14 at f ⊢
      rw [if_neg Bool.false_ne_true, show inV (V.int (((4 : Nat)) : Int)) [V.int 3, V.int 5] = false by decide +kernel]
      refine iteF ?_
      refine ⟨_, rfl, rfl, _, rfl, ?_⟩
      rw [decide_eq_true (show V.int (((4 : Nat)) : Int) = V.int 4 from rfl)]
      refine iteT ?_
      refine ⟨_, rfl, .inl ⟨rfl, _, SqL.of f.at_⟩, _, rfl, _, rfl, a, tags, y, dy, rfl, Same.word f.s ha, hy.same f.s, zy, fun q15 K15 s15 nq15 hq15 => ?_⟩
      have g := f.push s15 nq15 hq15 (by show 1 ≤ 4; decide)
      refine ⟨D, _, _, rfl, rfl, (f.same s15).at_, sz9 f.few, ?_⟩
      generalize upd K15 D _ = G15 at g ⊢
      have f := g
      clear g
      refine ⟨_, rfl, rfl, _, rfl, ?_⟩
      rw [ne_way (by decide)]
      refine iteF ?_
      refine ⟨_, rfl, rfl, _, rfl, ?_⟩
      rw [ne_way (by decide)]
      refine iteF ?_
      generalize G15 = Hz at f ⊢
      have k := k [none, pairsM tags dy] (by show els none (els (pairsM tags dy) none) = els (tagsM _) (pairsM (tagsIn _) dy); rw [htg, ti, els_none])
    case' inr.inr.inr.inr.inr =>
      refine ⟨_, rfl, rfl, _, rfl, ?_⟩
      rw [ne_way (by decide)]
      refine iteF ?_
      refine ⟨_, rfl, rfl, _, rfl, ?_⟩
      rw [ne_way (by decide)]
      refine iteF ?_
      refine ⟨_, rfl, by show 2 ≤ sizeLine; decide, fun e16 h16 => ?_⟩
      have f := f.same (same_new (o := .lst [V.int 3, V.int 5]) h16)
      refine ⟨e16, [V.int 3, V.int 5], rfl, .inl (SqL.of upd_same), rfl, rfl, _, rfl, ?_⟩
      generalize upd H3 e16 (.lst [V.int 3, V.int 5]) = K16 at f ⊢
      rw [if_neg Bool.false_ne_true, show inV (V.int (((5 : Nat)) : Int)) [V.int 3, V.int 5] = true by decide +kernel]
      refine iteT ?_
      refine ⟨_, rfl, _, rfl, a, tags, y, dy, rfl, Same.word f.s ha, hy.same f.s, ?_⟩
      refine ⟨_, rfl, ?_⟩
      have ew : wayM 5 (.list (tags.map .str)) y dy z dz = els none (els (tagM tags y dy) (numM z dz)) := by
        show els (tagsM _) (els (tagM (tagsIn _) y dy) _) = _
        rw [htg, ti]
      unfold tagM at ew
      cases hty : tagD tags dy
      case' true =>
        refine iteF ?_
        rw [hty, if_pos rfl] at ew
        refine ⟨_, rfl, rfl, _, rfl, ?_⟩
        rw [ne_way (by decide)]
        refine iteF ?_
        refine ⟨_, rfl, rfl, _, rfl, ?_⟩
        rw [decide_eq_true (show V.int (((5 : Nat)) : Int) = V.int 5 from rfl)]
        refine iteT ?_
        refine ⟨_, rfl, .inl ⟨rfl, _, SqL.of f.at_⟩, _, rfl, z, dz, rfl, hz.same f.s, fun q18 K18 s18 nq18 hq18 => ?_⟩
        have g := f.push s18 nq18 hq18 (by show 1 ≤ 4; decide)
        refine ⟨D, _, _, rfl, rfl, (f.same s18).at_, sz9 f.few, ?_⟩
        generalize upd K18 D _ = G18 at g ⊢
        have f := g
        clear g
        generalize G18 = Hz at f ⊢
        have k := k [none, numM z dz] (by rw [ew]; show els none (els (numM z dz) none) = _; rw [els_none]; rfl)
      case' false =>
        refine iteT ?_
        rw [hty, if_neg Bool.false_ne_true] at ew
        refine ⟨_, rfl, .inl ⟨rfl, _, SqL.of f.at_⟩, _, rfl, by show 2 ≤ sizeLine; decide, fun q19 nq19 => ?_⟩
        have s19 := same_new (o := .lst [V.str (Str.ofString "tag"), y]) nq19
        have g := f.push (m := some (K5.tag, y)) s19 nq19 upd_same (by show 1 ≤ 4; decide)
        refine ⟨D, _, _, rfl, rfl, (f.same s19).at_, sz9 f.few, ?_⟩
        generalize upd (upd K16 q19 _) D _ = G19 at g ⊢
        have f := g
        clear g
        refine ⟨_, rfl, rfl, _, rfl, ?_⟩
        rw [ne_way (by decide)]
        refine iteF ?_
        refine ⟨_, rfl, rfl, _, rfl, ?_⟩
        rw [decide_eq_true (show V.int (((5 : Nat)) : Int) = V.int 5 from rfl)]
        refine iteT ?_
        refine ⟨_, rfl, .inl ⟨rfl, _, SqL.of f.at_⟩, _, rfl, z, dz, rfl, hz.same f.s, fun q20 K20 s20 nq20 hq20 => ?_⟩
        have g := f.push s20 nq20 hq20 (by show 2 ≤ 4; decide)
        refine ⟨D, _, _, rfl, rfl, (f.same s20).at_, sz9 f.few, ?_⟩
        generalize upd K20 D _ = G20 at g ⊢
        have f := g
        clear g
        generalize G20 = Hz at f ⊢
        have k := k [none, some (K5.tag, y), numM z dz] (by rw [ew]; rfl)
    all_goals
      obtain ⟨qs, ms, f, k⟩ : ∃ qs ms, Found H Hz D qs ms ∧ ∀ p H', Same H H' → H' p = some (.lst (dueL (firstM ms))) → Q (.ref p) H' := ⟨_, _, f, k⟩
      have lz : (qs.map V.ref).length = (qs.zip ms).length := by rw [List.length_map, List.length_zip, Paired.length f.all, Nat.min_self]
      have few := f.few
      refine ⟨_, rfl, _, rfl, ⟨_, SqL.of f.at_⟩, fun L hL => ?_⟩
      refine lc_filter (walk_list (K := K) (a := D) (xs := qs.map V.ref)) hL (by rw [List.length_map]; omega) (fun H4 s4 => SqL.of (s4 _ _ f.at_)) (fun i => (((qs.zip ms)[i]?).map fun z => V.ref z.1).getD .non) (fun i => (((qs.zip ms)[i]?).map fun z => !z.2.isNone).getD false) ?_ ?_
      · rintro j x H4 H5 kk N hj s4 ⟨rfl, hx⟩ hk1 hk2
        rw [List.getElem?_map] at hx
        cases hq : qs[j]? with
        | none =>
          rw [hq] at hx
          cases hx
        | some q =>
          rw [hq] at hx
          have hx : V.ref q = x := Option.some.inj hx
          subst hx
          obtain ⟨m, hm, _, h2⟩ := paired_get f.all hq
          have gz : (qs.zip ms)[j]? = some (q, m) := by
            rw [List.getElem?_zip_eq_some]
            exact ⟨hq, hm⟩
          rw [gz] at hk1 hk2
          have hk1 : (!m.isNone) = true → ∀ H6, Same H5 H6 → kk (.ref q) H6 := hk1
          have hk2 : (!m.isNone) = false → ∀ H6, Same H5 H6 → N H6 := hk2
          refine ⟨rfl, _, rfl, by show 0 ≤ sizeLine; decide, fun e he => ?_⟩
          have s5 := same_new (o := .lst ([] : List V)) he
          refine ⟨q, e, _, rfl, rfl, s5 _ _ (s4 _ _ h2), upd_same, _, rfl, ?_⟩
          rw [if_pos rfl, dueL_empty]
          cases hmn : m.isNone with
          | false =>
            rw [hmn] at hk1
            exact iteT ⟨_, rfl, hk1 rfl _ s5⟩
          | true =>
            rw [hmn] at hk2
            exact iteF (hk2 rfl _ s5)
      · intro H4 s4 e4
        rw [lz, filter_range (fun z : Addr × DueM => !z.2.isNone) (fun z => V.ref z.1) _ _ (qs.zip ms) (fun i x hx => by rw [hx]; exact ⟨rfl, rfl⟩)] at e4
        refine ⟨by show 0 ≤ sizeLine; decide, fun u1 n1 => ⟨by show 1 ≤ sizeLine; decide, fun u2 n2 => ?_⟩⟩
        have s5 := same_new (o := .lst ([] : List V)) n1
        have k5 : (upd H4 u1 (.lst [])) u1 = some (.lst []) := upd_same
        have e5 := s5 _ _ e4
        generalize upd H4 u1 (.lst []) = H5 at n2 s5 k5 e5 ⊢
        have s6 := same_new (o := .lst [V.ref u1]) n2
        have k6 : (upd H5 u2 (.lst [V.ref u1])) u2 = some (.lst [V.ref u1]) := upd_same
        have k5 := s6 _ _ k5
        have e6 := s6 _ _ e5
        generalize upd H5 u2 (.lst [V.ref u1]) = H6 at s6 k5 k6 e6 ⊢
        have s46 := s4.trans (s5.trans s6)
        have g := f.same s46
        have fl := List.length_filter_le (fun z : Addr × DueM => !z.2.isNone) (qs.zip ms)
        rw [← lz, List.length_map] at fl
        refine ⟨L, u2, _, _, rfl, rfl, e6, k6, by rw [List.length_map]; exact sz_le (by show _ + 1 ≤ _; omega), fun u3 n3 => ?_⟩
        have s7 := same_new (o := .lst ((((qs.zip ms).filter fun z => !z.2.isNone).map fun z => V.ref z.1) ++ [V.ref u1])) n3
        have gs := g.s.trans s7
        rcases first_zip g.all with ⟨w1, w2⟩ | ⟨q, r, w1, w2⟩
        · refine ⟨u3, _, 0, .ref u1, rfl, rfl, SqL.of upd_same, ?_, ?_⟩
          · rw [w1]
            exact atI_nat (j := 0) rfl
          · refine k u1 _ gs ?_
            rw [w2]
            exact s7 _ _ k5
        · refine ⟨u3, _, 0, .ref q, rfl, rfl, SqL.of upd_same, ?_, ?_⟩
          · rw [w1]
            exact atI_nat (j := 0) rfl
          · exact k q _ gs (s7 _ _ w2)
end
end Law
end

section
set_option Elab.async false
set_option linter.all false
set_option maxRecDepth 100000
set_option maxHeartbeats 4000000
namespace Law
open PySem PySem.Spec PyProof.Rows L2 LamX QB QM
section
variable {P : Program} {w : World} {K : PySem.W.Frag} {mg : Str → Option Value} {base : Heap}

/-! ### what stays, but for some lists -/
def Exc (M : List Addr) (H H' : Hp) : Prop := ∀ a o, a ∉ M → H a = some o → H' a = some o
theorem Exc.refl {M : List Addr} {H : Hp} : Exc M H H := fun _ _ _ h => h
theorem Exc.trans {M : List Addr} {H H1 H2 : Hp} (a : Exc M H H1) (b : Exc M H1 H2) : Exc M H H2 := fun c o n h => b c o n (a c o n h)
theorem Exc.of {M : List Addr} {H H' : Hp} (a : Same H H') : Exc M H H' := fun c o _ h => a c o h
theorem Exc.mono {M N : List Addr} {H H' : Hp} (a : Exc M H H') (h : ∀ x ∈ M, x ∈ N) : Exc N H H' := fun c o n e => a c o (fun z => n (h c z)) e
theorem Exc.new {M : List Addr} {H H' : Hp} {p : Addr} {o : HO} (a : Exc M H H') (h : H' p = none) : Exc M H (upd H' p o) := a.trans (.of (same_new h))
theorem Exc.mut {M : List Addr} {H H' : Hp} {p : Addr} {o : HO} (a : Exc M H H') (h : p ∈ M ∨ H p = none) : Exc M H (upd H' p o) := fun c u n e => by
  have : c ≠ p := fun z => by
    subst z
    rcases h with h | h
    · exact n h
    · rw [h] at e
      cases e
  rw [upd_ne this]
  exact a c u n e
theorem Exc.free {M : List Addr} {H H' : Hp} {p : Addr} (a : Exc M H H') (h : H' p = none) (n : p ∉ M) : H p = none := by
  cases e : H p with
  | none => rfl
  | some o =>
    rw [a p o n e] at h
    cases h
/-- the pile of draws -/
def PileAt (H : Hp) (p : Addr) : Prop := ∃ d c n : Int, H p = some (.lst [.int d, .int c, .int n])
theorem PileAt.free {H H' : Hp} {p q : Addr} (a : Exc [p] H H') (h : PileAt H p) (h' : PileAt H' p) (e : H' q = none) : H q = none := by
  have : q ≠ p := fun z => by
    subst z
    obtain ⟨_, _, _, h⟩ := h'
    rw [h] at e
    cases e
  exact a.free e (by simpa using this)

def spMixed : Sp := fun vs H Q _ => ∃ c k : Int, vs = [.int c, .int k] ∧ ∀ r : Int, Q (.int r) H
theorem emod_lt {i j : Int} (h : 0 < j) : 0 ≤ i % j ∧ i % j < j := ⟨Int.emod_nonneg i (by omega), Int.emod_lt_of_pos i h⟩
theorem ok__law_mixed (X : TX K mg) : FnOk P w K mg base CX0 1 X.d__law_mixed.a X.d__law_mixed.fd ["cell", "k"] spMixed := by
  have nd := sc__law_mixed.nd
  refine X.d__law_mixed.F.ok sc__law_mixed (fun vs H Q E h => ?_) (fun cdv A outer s H vs Q E hr h => ?_)
  · obtain ⟨c, k, rfl, _⟩ := h
    rfl
  · obtain ⟨c, k, rfl, q⟩ := h
    refine ⟨_, (pss_cons (ps_set (i := 2) nd rfl (Or.inl rfl) (pe_op op_mod (pe_callTy call_int1 (by rfl) X.n_int QB.bo_int (pa_cons (pe_op op_add (pe_op op_add (pe_op op_mul (pe_op op_mod (pe_callTy call_int1 (by rfl) X.n_int QB.bo_int (pa_cons (pv 0) pa_nil)) pe_int) pe_int) (pe_op op_mul (pv 1) pe_int)) pe_int) pa_nil)) pe_int)) (pss_cons (ps_set (i := 2) nd rfl (Or.inl rfl) (pe_op op_mod (pe_callTy call_int1 (by rfl) X.n_int QB.bo_int (pa_cons (pe_op op_mul (pv 2) (pv 2)) pa_nil)) pe_int)) (pss_one (ps_ret (pe_op op_fdiv (pe_op op_mod (pe_callTy call_int1 (by rfl) X.n_int QB.bo_int (pa_cons (pe_op op_mul (pv 2) (pv 2)) pa_nil)) pe_int) pe_int))))), ?_⟩
    try dsimp only [Cx.nox, Cx.wish, cxOf]
    have m1 : (0 : Int) < 2147483647 := by decide
    have m2 : (0 : Int) < 2147483629 := by decide
    have m3 : (0 : Int) < 2147483587 := by decide
    refine ⟨_, rfl, .inl ⟨_, rfl, _, _, rfl, rfl, m1, _, _, rfl, rfl, .inr ⟨by decide, by decide⟩, _, rfl, _, _, rfl, rfl, .inr ⟨by decide, by decide⟩, _, _, rfl, rfl, _, _, rfl, rfl, .inl ⟨_, rfl, _, _, rfl, rfl, m1, ?_⟩⟩⟩
    refine ⟨_, rfl, _, rfl, _, _, rfl, rfl, ?_, .inl ⟨_, rfl, _, _, rfl, rfl, m2, ?_⟩⟩
    · have := emod_lt (i := c % 2147483647 * 48271 + k * 69621 + 11) m1
      refine .inl ⟨?_, ?_⟩ <;> omega
    refine ⟨_, rfl, _, rfl, _, _, rfl, rfl, ?_, .inl ⟨_, rfl, _, _, rfl, rfl, m3, ?_⟩⟩
    · have := emod_lt (i := (c % 2147483647 * 48271 + k * 69621 + 11) % 2147483647 * ((c % 2147483647 * 48271 + k * 69621 + 11) % 2147483647)) m2
      refine .inl ⟨?_, ?_⟩ <;> omega
    exact ⟨_, _, rfl, rfl, ⟨by decide, by decide⟩, q _⟩
theorem mul50 : CMulW ((10 : Int) ^ Int.toNat 50) ((10 : Int) ^ Int.toNat 50) := wide_mul (a := 200) (b := 200) (by decide +kernel) (by decide +kernel) (by decide) (by decide) (by decide)
theorem mul100 : CMulW ((10 : Int) ^ Int.toNat 50 * (10 : Int) ^ Int.toNat 50) ((10 : Int) ^ Int.toNat 50) := wide_mul (a := 400) (b := 200) (by decide +kernel) (by decide +kernel) (by decide) (by decide) (by decide)
theorem pos150 : (0 : Int) < (10 : Int) ^ Int.toNat 50 * (10 : Int) ^ Int.toNat 50 * (10 : Int) ^ Int.toNat 50 := by decide +kernel
def spPile (K : PySem.W.Frag) : Sp := fun vs H Q _ => ∃ (l : Addr) (ns : List Int) (k : Nat), vs = [.ref l, .int (k : Int)] ∧ SqL K H l (ns.map V.int) ∧ ∀ (p : Addr) (H' : Hp), Same H H' → H p = none → PileAt H' p → Q (.ref p) H'
theorem ok__law_pile (X : TX K mg) : FnOk P w K mg base CX0 3 X.d__law_pile.a X.d__law_pile.fd ["script", "k"] (spPile K) := by
  have nd := sc__law_pile.nd
  refine X.d__law_pile.F.ok sc__law_pile (fun vs H Q E h => ?_) (fun cdv A outer s H vs Q E hr h => ?_)
  · obtain ⟨l, ns, k, rfl, _⟩ := h
    rfl
  · obtain ⟨l, ns, k, rfl, hl, q⟩ := h
    refine ⟨_, (pss_cons (ps_set (i := 2) nd rfl (Or.inl rfl) pe_int) (pss_cons (ps_if (pt_cmpR op_lt (pv 1) (pe_callB (QB.call_lenK K) (by rfl) X.n_len PySem.boot_len (pa_cons (pv 0) pa_nil)) (nomark _)) (pss_one (ps_set (i := 2) nd rfl (Or.inl rfl) (pe_ix (QB.ix_listK K) (pv 0) (pv 1) (fun _ _ => rfl)))) pss_nil) (pss_cons (ps_set (i := 3) nd rfl (Or.inl rfl) (pe_ix (QB.ix_listK K) (pe_lst (pa_cons pe_int (pa_cons (pe_op op_mod (pe_callTy call_int1 (by rfl) X.n_int QB.bo_int (pa_cons (pv 2) pa_nil)) (pe_op op_mulW (pe_op op_mulW (pe_op op_pow pe_int pe_int) (pe_op op_pow pe_int pe_int)) (pe_op op_pow pe_int pe_int))) pa_nil))) (pe_callTy call_int1 (by rfl) X.n_int QB.bo_int (pa_cons (pe_cmpR op_ge (pe_callB call_abs (by rfl) X.n_abs QB.bo_abs (pa_cons (pv 2) pa_nil)) (pe_op op_pow pe_int pe_int) (nomark _)) pa_nil)) (fun _ _ => rfl))) (pss_one (ps_ret (pe_lst (pa_cons (pv 3) (pa_cons (pe_op op_mod (pe_callTy call_int1 (by rfl) X.n_int QB.bo_int (pa_cons (pv 2) pa_nil)) pe_int) (pa_cons (pe_op op_mul pe_int (pv 1)) pa_nil))))))))), ?_⟩
    try dsimp only [Cx.nox, Cx.wish, cxOf]
    refine ⟨_, rfl, _, rfl, _, _, rfl, .inl hl, ?_⟩
    refine ⟨_, _, rfl, rfl, _, rfl, ?_⟩
    by_cases hj : k < ns.length
    case' pos =>
      rw [decide_eq_true (by rw [List.length_map]; omega)]
      refine iteT ?_
      refine ⟨_, rfl, _, rfl, l, ns.map V.int, (k : Int), _, rfl, rfl, hl, atI_nat (v := V.int (ns[k]'hj)) (by rw [List.getElem?_map, List.getElem?_eq_getElem hj]; rfl), ?_⟩
      generalize ns[k]'hj = c
    case' neg =>
      rw [decide_eq_false (by rw [List.length_map]; omega)]
      refine iteF ?_
    all_goals
      refine ⟨_, rfl, .inl ⟨_, rfl, ?_⟩⟩
      refine ⟨_, _, rfl, rfl, ⟨by decide, by decide, by decide⟩, _, _, rfl, rfl, ⟨by decide, by decide, by decide⟩, _, _, rfl, rfl, mul50, _, _, rfl, rfl, ⟨by decide, by decide, by decide⟩, _, _, rfl, rfl, mul100, _, _, rfl, rfl, pos150, ?_⟩
      refine ⟨by show 2 ≤ sizeLine; decide, fun t ht => ?_⟩
      have s1 : ∀ o, Same H (upd H t o) := fun o => same_new ht
      refine ⟨_, rfl, _, rfl, _, _, rfl, rfl, ⟨by decide, by decide, by decide⟩, _, _, rfl, rfl, .inr ⟨_, rfl, ?_⟩⟩
      generalize decide ((10 : Int) ^ Int.toNat 18 ≤ _) = bb
      cases bb <;>
      · refine ⟨t, _, _, _, rfl, rfl, SqL.of upd_same, rfl, ?_⟩
        refine ⟨_, rfl, _, rfl, .inl ⟨_, rfl, _, _, rfl, rfl, by show (0 : Int) < 2147483647; decide, _, rfl, _, _, rfl, rfl, .inl ⟨by decide, by decide⟩, by show 3 ≤ sizeLine; decide, fun p hp => ?_⟩⟩
        exact q p _ (Same.new (s1 _) hp) ((s1 _).free hp) ⟨_, _, _, upd_same⟩
def spTake : Sp := fun vs H Q _ => ∃ (p : Addr) (m : Nat), vs = [.ref p, .int (m : Int)] ∧ 0 < m ∧ m ≤ 1000 ∧ PileAt H p ∧ ∀ (r : Nat) (H' : Hp), r < m → Exc [p] H H' → PileAt H' p → Q (.int (r : Int)) H'
theorem nat_of_mod {i : Int} {m : Nat} (h : 0 < m) : ∃ r : Nat, r < m ∧ i % (m : Int) = (r : Int) := by
  have := emod_lt (i := i) (show (0 : Int) < (m : Int) by omega)
  exact ⟨(i % (m : Int)).toNat, by omega, by omega⟩
theorem ok__law_take (X : TX K mg) : FnOk P w K mg base CX0 3 X.d__law_take.a X.d__law_take.fd ["pile", "many"] spTake := by
  have nd := sc__law_take.nd
  refine X.d__law_take.F.ok sc__law_take (fun vs H Q E h => ?_) (fun cdv A outer s H vs Q E hr h => ?_)
  · obtain ⟨p, m, rfl, _⟩ := h
    rfl
  · obtain ⟨p, m, rfl, m0, m1, ⟨d, c, n, hp⟩, q⟩ := h
    refine ⟨_, (pss_cons (ps_if (pt_cmpR (QB.op_inK K) (pe_ix (QB.ix_listK K) (pv 0) pe_int (fun _ _ => rfl)) (pe_lst (pa_cons pe_int (pa_cons (pe_un un_neg pe_int) pa_nil))) rfl) (pss_cons (ps_asg (pe_op op_add (pe_ix (QB.ix_listK K) (pv 0) pe_int (fun _ _ => rfl)) pe_int) (pg_sub (pv 0) pe_int set_list)) (pss_one (ps_ret (pe_op op_mod (pe_callTy call_int1 (by rfl) X.n_int QB.bo_int (pa_cons (pe_call (ok__law_mixed X) (hr.mono (by decide)) rfl X.d__law_mixed.mg X.d__law_mixed.F.kp X.d__law_mixed.b .nil pass0 (pa_cons (pe_ix (QB.ix_listK K) (pv 0) pe_int (fun _ _ => rfl)) (pa_cons (pe_ix (QB.ix_listK K) (pv 0) pe_int (fun _ _ => rfl)) pa_nil))) pa_nil)) (pv 1))))) pss_nil) (pss_cons (ps_set (i := 2) nd rfl (Or.inl rfl) (pe_op op_mod (pe_callTy call_int1 (by rfl) X.n_int QB.bo_int (pa_cons (pe_ix (QB.ix_listK K) (pv 0) pe_int (fun _ _ => rfl)) pa_nil)) (pv 1))) (pss_cons (ps_asg (pe_op op_fdiv (pe_ix (QB.ix_listK K) (pv 0) pe_int (fun _ _ => rfl)) (pv 1)) (pg_sub (pv 0) pe_int set_list)) (pss_one (ps_ret (pv 2)))))), ?_⟩
    try dsimp only [Cx.nox, Cx.wish, cxOf]
    refine ⟨_, rfl, p, _, _, _, rfl, rfl, SqL.of hp, rfl, ?_⟩
    refine ⟨_, rfl, by show 2 ≤ sizeLine; decide, fun t ht => ?_⟩
    have s1 := same_new (o := .lst [V.int 0, V.int (-1)]) ht
    have hp1 := s1 _ _ hp
    refine ⟨t, _, rfl, .inl (SqL.of upd_same), rfl, rfl, _, rfl, ?_⟩
    generalize upd H t (.lst [V.int 0, V.int (-1)]) = H1 at s1 hp1 ⊢
    cases inV (V.int d) [V.int 0, V.int (-1)]
    · refine iteF ?_
      refine ⟨_, rfl, p, _, _, _, rfl, rfl, SqL.of hp1, rfl, .inl ⟨_, rfl, ?_⟩⟩
      obtain ⟨r, hr1, hr2⟩ := nat_of_mod (i := d) m0
      refine ⟨_, rfl, _, _, rfl, rfl, by show (0 : Int) < m; omega, ?_⟩
      refine ⟨_, rfl, p, _, _, _, rfl, rfl, SqL.of hp1, rfl, _, rfl, _, _, rfl, rfl, ⟨by omega, by omega⟩, ?_⟩
      refine ⟨_, rfl, p, _, _, 0, rfl, rfl, hp1, rfl, _, rfl, ?_⟩
      show Q (.int (d % (m : Int))) _
      rw [hr2]
      exact q r _ hr1 ((Exc.of s1).mut (.inl (by simp))) ⟨_, _, _, upd_same⟩
    · refine iteT ?_
      refine ⟨_, rfl, p, _, _, _, rfl, rfl, SqL.of hp1, rfl, _, _, rfl, rfl, ?_⟩
      refine ⟨_, rfl, p, _, _, 2, rfl, rfl, hp1, rfl, ?_⟩
      generalize hH2 : upd H1 p _ = H2
      have hp2 : H2 p = some (.lst [V.int d, V.int c, V.int (n + 1)]) := by rw [← hH2]; exact upd_same
      have s2 : Exc [p] H H2 := by rw [← hH2]; exact (Exc.of s1).mut (.inl (by simp))
      refine ⟨_, rfl, p, _, _, _, rfl, rfl, SqL.of hp2, rfl, ?_⟩
      refine ⟨_, rfl, p, _, _, _, rfl, rfl, SqL.of hp2, rfl, ?_⟩
      refine ⟨_, _, rfl, fun r0 => ?_⟩
      refine .inl ⟨_, rfl, ?_⟩
      obtain ⟨r, hr1, hr2⟩ := nat_of_mod (i := r0) m0
      refine ⟨_, rfl, _, _, rfl, rfl, by show (0 : Int) < m; omega, ?_⟩
      show Q (.int (r0 % (m : Int))) H2
      rw [hr2]
      exact q r _ hr1 s2 ⟨_, _, _, hp2⟩
end
end Law
end

section
set_option Elab.async false
set_option linter.all false
set_option maxRecDepth 100000
/-! Qtext: texts by their signs. -/
namespace QT
open PySem PySem.Spec PyProof.Rows L2 TL
theorem tl_cutL (z : Str) (k : Nat) : tl (cutS z none (some (k : Int))) = (tl z).take k := by
  unfold cutS
  rw [HT.sIx_nat, HT.sIx_none, List.drop_zero, Nat.sub_zero, tl_mk]
  show _ = z.cps.toList.take k
  have e : z.length = z.cps.toList.length := len_tl z
  by_cases h : k ≤ z.length
  · rw [Nat.min_eq_left h]
  · rw [Nat.min_eq_right (by omega), List.take_of_length_le (by omega), List.take_of_length_le (by omega)]
theorem tl_cutR (z : Str) (k : Nat) : tl (cutS z (some (k : Int)) none) = (tl z).drop k := by
  unfold cutS
  rw [HT.sIx_nat, HT.sIx_none, tl_mk]
  show _ = z.cps.toList.drop k
  have e : z.length = z.cps.toList.length := len_tl z
  by_cases h : k ≤ z.length
  · rw [Nat.min_eq_left h, List.take_of_length_le (by rw [List.length_drop]; omega)]
  · rw [Nat.min_eq_right (by omega), List.drop_eq_nil_of_le (by omega), List.drop_eq_nil_of_le (by omega), List.take_nil]
theorem joinL_nil : ∀ l : List (List Nat), joinL [] l = l.flatten
  | [] => rfl
  | [p] => by simp [joinL]
  | p :: q :: r => by
    rw [joinL, joinL_nil (q :: r)]
    simp
theorem tl_join0 (ys : List Str) : tl (Txt.join Str.empty ys) = (ys.map tl).flatten := by
  rw [join_eq, tl_join]
  exact joinL_nil _
/-- the letters -/
def abc : Str := "abcdefghijklmnopqrstuvwxyz"
theorem abc_len : abc.length = 26 := by decide +kernel
theorem abc_tl : tl abc = (List.range 26).map (97 + ·) := by decide +kernel
theorem abc_mem {c : Nat} : c ∈ tl abc ↔ 97 ≤ c ∧ c < 123 := by
  rw [abc_tl, List.mem_map]
  constructor
  · rintro ⟨i, hi, rfl⟩
    rw [List.mem_range] at hi
    omega
  · rintro ⟨h1, h2⟩
    exact ⟨c - 97, List.mem_range.mpr (by omega), by omega⟩
theorem abc_at {i : Nat} (h : i < 26) : abc.cps[i]? = some (97 + i) := by
  have e : (tl abc)[i]? = some (97 + i) := by
    rw [abc_tl, List.getElem?_map, List.getElem?_range h]
    rfl
  rw [← e]
  simp [tl]
theorem abc_item {i : Int} (h0 : 0 ≤ i) (h : i < 26) : abc.cps[i.toNat]? = some (97 + i.toNat) := abc_at (by omega)
/-- a sign within fixed ones -/
theorem mid_inj {A B T T' : List Nat} {c d : Nat} (h : A ++ [c] ++ B ++ T = A ++ [d] ++ B ++ T') : c = d := by
  have e := congrArg (fun l : List Nat => l[A.length]?) h
  simpa using e
end QT
end

section
set_option Elab.async false
set_option linter.all false
set_option maxRecDepth 100000
set_option maxHeartbeats 4000000
namespace Law
open PySem PySem.Spec PyProof.Rows L2 LamX QB QM TL QT
section
variable {P : Program} {w : World} {K : PySem.W.Frag} {mg : Str → Option Value} {base : Heap}
theorem PileAt.upd {H : Hp} {p q : Addr} {o : HO} (h : PileAt H p) (n : p ≠ q) : PileAt (L2.upd H q o) p := by
  obtain ⟨d, c, k, e⟩ := h
  exact ⟨d, c, k, (upd_ne n).trans e⟩
theorem PileAt.ne {H : Hp} {p q : Addr} (h : PileAt H p) (n : H q = none) : p ≠ q := fun z => by
  subst z
  obtain ⟨_, _, _, e⟩ := h
  rw [n] at e
  cases e
theorem PileAt.same {H H' : Hp} {p : Addr} (h : PileAt H p) (s : Same H H') : PileAt H' p := by
  obtain ⟨d, c, k, e⟩ := h
  exact ⟨d, c, k, s _ _ e⟩
theorem sum_ones : ∀ l : List Nat, ((l.map fun y => (⟨#[97 + y]⟩ : Str)).map (·.length)).sum = l.length
  | [] => rfl
  | y :: l => by
    rw [List.map_cons, List.map_cons, List.sum_cons, sum_ones l, List.length_cons]
    show 1 + l.length = l.length + 1
    omega
def paces : List Nat := [1, 3, 5, 7, 9, 11, 15, 17, 19, 21, 23, 25]
def plains : Word := ["re", "fwd", "list", "r", "aw", "ref", "a", "fw"]
theorem paces_inj : ∀ c ∈ paces, ∀ sh < 26, ∀ i < 6, ∀ j < 6, 97 + (sh + c * i) % 26 = 97 + (sh + c * j) % 26 → i = j := by decide +kernel
theorem plains_nd : ∀ k < 3, ∀ m < 7, ((plains.drop k ++ plains).take m).Nodup := by decide +kernel
theorem plains_len : ∀ k < 3, ∀ m < 7, ((plains.drop k ++ plains).take m).length = m := by decide +kernel
theorem plains_txt : ∀ t ∈ plains, (decide (1 ≤ t.length) && decide (t.length ≤ 8) && t.cps.toList.all fun c => decide (c ∈ letters.cps.toList)) = true := by decide +kernel
theorem plains_tags {k m : Nat} (hk : k < 3) (h0 : 1 ≤ m) (hm : m ≤ 6) : TagsOk ((plains.drop k ++ plains).take m) := by
  have h2 := plains_len k hk m (by omega)
  refine ⟨by rw [h2]; exact h0, by rw [h2]; exact hm, plains_nd k hk m (by omega), fun t ht => ?_⟩
  have hp : t ∈ plains := by
    rcases List.mem_append.mp (List.mem_of_mem_take ht) with h | h
    · exact List.mem_of_mem_drop h
    · exact h
  have h := plains_txt t hp
  rw [Bool.and_eq_true, Bool.and_eq_true, List.all_eq_true] at h
  exact ⟨of_decide_eq_true h.1.1, of_decide_eq_true h.1.2, fun c hc => of_decide_eq_true (h.2 c hc)⟩
/-- one drawn name -/
def nameOf (w : Str) (at_ sh pc i : Nat) : Str := cutS w none (some (at_ : Int)) ++ (⟨#[97 + (sh + pc * i) % 26]⟩ : Str) ++ cutS w (some (at_ : Int)) none
theorem tl_name (w : Str) (at_ sh pc i : Nat) : tl (nameOf w at_ sh pc i) = (tl w).take at_ ++ [97 + (sh + pc * i) % 26] ++ (tl w).drop at_ := by
  unfold nameOf
  rw [tl_append, tl_append, tl_cutL, tl_cutR]
def tailB (w : Str) : Str := if w.length < 7 then "a" else Str.empty
def tailOf (w : Str) (i : Nat) : Str := if i % 2 = 0 then Str.empty else tailB w
theorem tailB_len (w : Str) : (tailB w).length ≤ 1 := by
  unfold tailB
  split
  · decide
  · decide
theorem tailOf_len (w : Str) (i : Nat) : (tailOf w i).length ≤ 1 := by
  unfold tailOf
  split
  · decide
  · exact tailB_len w
theorem name_len (w : Str) (at_ sh pc i : Nat) : (nameOf w at_ sh pc i).length = w.length + 1 := by
  have e1 : (nameOf w at_ sh pc i).length = (tl (nameOf w at_ sh pc i)).length := len_tl _
  have e2 : w.length = (tl w).length := len_tl w
  have e3 : ((tl w).take at_).length + ((tl w).drop at_).length = (tl w).length := by rw [← List.length_append, List.take_append_drop]
  rw [e1, tl_name, List.length_append, List.length_append, e2]
  simp only [List.length_cons, List.length_nil]
  omega
theorem cut_lens (w : Str) (k : Nat) : (cutS w none (some (k : Int))).length ≤ w.length ∧ (cutS w (some (k : Int)) none).length ≤ w.length := by
  have e1 : (cutS w none (some (k : Int))).length = ((tl w).take k).length := (len_tl _).trans (congrArg List.length (tl_cutL w k))
  have e2 : (cutS w (some (k : Int)) none).length = ((tl w).drop k).length := (len_tl _).trans (congrArg List.length (tl_cutR w k))
  have e3 : w.length = (tl w).length := len_tl w
  rw [e1, e2, e3, List.length_take, List.length_drop]
  exact ⟨Nat.min_le_right _ _, Nat.sub_le _ _⟩
theorem len_add (x y : Str) : (x ++ y).length = x.length + y.length := by
  have e1 : (x ++ y).length = (tl (x ++ y)).length := len_tl _
  have e2 : x.length = (tl x).length := len_tl x
  have e3 : y.length = (tl y).length := len_tl y
  rw [e1, tl_append, List.length_append, e2, e3]
theorem tail_cases (w : Str) (i : Nat) : (tl (tailOf w i) = [] ∨ (w.length < 7 ∧ tl (tailOf w i) = [97])) := by
  unfold tailOf tailB
  split
  · exact .inl rfl
  · split
    · exact .inr ⟨by assumption, rfl⟩
    · exact .inl rfl
theorem names_tags {w : Str} {at_ sh pc m : Nat} (hw : w.length < 8) (hc : ∀ c ∈ tl w, 97 ≤ c ∧ c < 123) (hs : sh < 26) (hp : pc ∈ paces) (h0 : 1 ≤ m) (hm : m ≤ 6) : TagsOk ((List.range m).map fun i => nameOf w at_ sh pc i ++ tailOf w i) := by
  have e : ∀ i, tl (nameOf w at_ sh pc i ++ tailOf w i) = (tl w).take at_ ++ [97 + (sh + pc * i) % 26] ++ (tl w).drop at_ ++ tl (tailOf w i) := fun i => by rw [tl_append, tl_name]
  refine ⟨by simpa using h0, by simpa using hm, ?_, fun t ht => ?_⟩
  · refine List.pairwise_map.mpr (List.nodup_range.imp_of_mem fun {i j} hi hj hne z => hne ?_)
    have z2 : tl (nameOf w at_ sh pc i ++ tailOf w i) = tl (nameOf w at_ sh pc j ++ tailOf w j) := congrArg tl z
    rw [e, e] at z2
    rw [List.mem_range] at hi hj
    exact paces_inj pc hp sh hs i (by omega) j (by omega) (mid_inj z2)
  · obtain ⟨i, _, rfl⟩ := List.mem_map.mp ht
    have hl : (nameOf w at_ sh pc i ++ tailOf w i).length = w.length + 1 + (tl (tailOf w i)).length := by
      have e1 : (nameOf w at_ sh pc i ++ tailOf w i).length = (tl (nameOf w at_ sh pc i ++ tailOf w i)).length := len_tl _
      have e2 : w.length = (tl w).length := len_tl w
      have e3 : ((tl w).take at_).length + ((tl w).drop at_).length = (tl w).length := by rw [← List.length_append, List.take_append_drop]
      rw [e1, e, List.length_append, List.length_append, List.length_append, e2]
      simp only [List.length_cons, List.length_nil]
      omega
    refine ⟨by omega, ?_, fun c hcm => ?_⟩
    · rcases tail_cases w i with h | ⟨h1, h2⟩
      · rw [h] at hl
        simp at hl
        omega
      · rw [h2] at hl
        simp at hl
        omega
    · refine (abc_mem (c := c)).mpr ?_
      have hcm : c ∈ tl (nameOf w at_ sh pc i ++ tailOf w i) := hcm
      rw [e] at hcm
      rcases List.mem_append.mp hcm with h | h
      · rcases List.mem_append.mp h with h | h
        · rcases List.mem_append.mp h with h | h
          · exact hc c (List.mem_of_mem_take h)
          · rw [List.mem_singleton.mp h]
            omega
        · exact hc c (List.mem_of_mem_drop h)
      · rcases tail_cases w i with h' | ⟨_, h'⟩
        · rw [h'] at h
          cases h
        · rw [h', List.mem_singleton] at h
          omega
def spTags : Sp := fun vs H Q _ => ∃ (p : Addr) (m : Nat), vs = [.ref p, .int (m : Int)] ∧ 1 ≤ m ∧ m ≤ 6 ∧ PileAt H p ∧ ∀ (tags : Word) (q : Addr) (H' : Hp), TagsOk tags → tags.length = m → Exc [p] H H' → PileAt H' p → H q = none → WordAt H' q tags → Q (.ref q) H'
theorem ok__law_tags (X : TX K mg) : FnOk P w K mg base CX0 4 X.d__law_tags.a X.d__law_tags.fd ["pile", "many"] spTags := by
  have nd := sc__law_tags.nd
  refine X.d__law_tags.F.ok sc__law_tags (fun vs H Q E h => ?_) (fun cdv A outer s H vs Q E hr h => ?_)
  · obtain ⟨p, m, rfl, _⟩ := h
    rfl
  · obtain ⟨p, m, rfl, m0, m1, hp, q⟩ := h
    refine ⟨_, (pss_cons (ps_set (i := 2) nd rfl (Or.inr rfl) pe_str) (pss_cons (ps_set (i := 3) nd rfl (Or.inr rfl) (pe_join pe_str (pe_lc (own := [("k", 10)]) (g := gName 10) (tt := tYes) rfl nd (pi_range1 (by rfl) X.n_range (pa_cons (pe_call (ok__law_take X) (hr.mono (by decide)) rfl X.d__law_take.mg X.d__law_take.F.kp X.d__law_take.b .nil pass0 (pa_cons (pv 0) (pa_cons pe_int pa_nil))) pa_nil)) (blkOk_by (N := ["pile", "many", "letters", "stem", "at", "shift", "pace", "plain", "tail", "some", "k", "name"]) (sc := defScope s__law_tags) (by decide +kernel)) (fun _ _ _ _ _ => pg_name (i := 10) nd rfl (Or.inl rfl)) (fun _ _ _ _ _ => pts_nil) (fun _ _ _ _ _ => (pe_item_str (pv 2) (pe_call (ok__law_take X) (hr.mono (by decide)) rfl X.d__law_take.mg X.d__law_take.F.kp X.d__law_take.b .nil pass0 (pa_cons (pv 0) (pa_cons pe_int pa_nil))) (fun _ _ => rfl)))))) (pss_cons (ps_set (i := 4) nd rfl (Or.inr rfl) (pe_call (ok__law_take X) (hr.mono (by decide)) rfl X.d__law_take.mg X.d__law_take.F.kp X.d__law_take.b .nil pass0 (pa_cons (pv 0) (pa_cons (pe_op op_add (pe_callB call_len_str (by rfl) X.n_len PySem.boot_len (pa_cons (pv 3) pa_nil)) pe_int) pa_nil)))) (pss_cons (ps_set (i := 5) nd rfl (Or.inr rfl) (pe_call (ok__law_take X) (hr.mono (by decide)) rfl X.d__law_take.mg X.d__law_take.F.kp X.d__law_take.b .nil pass0 (pa_cons (pv 0) (pa_cons pe_int pa_nil)))) (pss_cons (ps_set (i := 6) nd rfl (Or.inr rfl) (pe_ix (QB.ix_listK K) (pe_lst (pa_cons pe_int (pa_cons pe_int (pa_cons pe_int (pa_cons pe_int (pa_cons pe_int (pa_cons pe_int (pa_cons pe_int (pa_cons pe_int (pa_cons pe_int (pa_cons pe_int (pa_cons pe_int (pa_cons pe_int pa_nil))))))))))))) (pe_call (ok__law_take X) (hr.mono (by decide)) rfl X.d__law_take.mg X.d__law_take.F.kp X.d__law_take.b .nil pass0 (pa_cons (pv 0) (pa_cons pe_int pa_nil))) (fun _ _ => rfl))) (pss_cons (ps_if (pt_cmpR op_eq (pe_op op_mod (pv 5) pe_int) pe_int (nomark _)) (pss_cons (ps_set (i := 7) nd rfl (Or.inl rfl) (pe_lst (pa_cons pe_str (pa_cons pe_str (pa_cons pe_str (pa_cons pe_str (pa_cons pe_str (pa_cons pe_str (pa_cons pe_str (pa_cons pe_str pa_nil)))))))))) (pss_one (ps_ret (pe_slice (QB.sl_listK K) (pe_op op_cat (pe_slice (QB.sl_listK K) (pv 7) (po_some (pe_op op_mod (pe_op op_fdiv (pv 5) pe_int) pe_int)) po_none) (pv 7)) po_none (po_some (pv 1)))))) pss_nil) (pss_cons (ps_set (i := 8) nd rfl (Or.inr rfl) (pe_op QO.op_mul_str pe_str (pe_callTy call_int1 (by rfl) X.n_int QB.bo_int (pa_cons (pe_cmpR op_lt (pe_callB call_len_str (by rfl) X.n_len PySem.boot_len (pa_cons (pv 3) pa_nil)) pe_int (nomark _)) pa_nil)))) (pss_cons (ps_setLc (i := 9) (own := [("k", 10)]) (g := gName 10) (tt := tYes) rfl nd rfl rfl (sw_true rfl rfl rfl (by decide +kernel)) (pi_range1 (by rfl) X.n_range (pa_cons (pv 1) pa_nil)) (blkOk_by (N := ["pile", "many", "letters", "stem", "at", "shift", "pace", "plain", "tail", "some", "k", "name"]) (sc := defScope s__law_tags) (by decide +kernel)) (fun _ _ _ _ _ => pg_name (i := 10) nd rfl (Or.inl rfl)) (fun _ _ _ _ _ => pts_nil) (fun _ _ _ _ _ => (pe_op op_add_str (pe_op op_add_str (pe_slice sl_str (pv 3) po_none (po_some (pv 4))) (pe_item_str (pv 2) (pe_op op_mod (pe_op op_add (pv 5) (pe_op op_mul (pv 6) (pv 10))) pe_int) (fun _ _ => rfl))) (pe_slice sl_str (pv 3) (po_some (pv 4)) po_none)))) (pss_one (ps_ret (pe_lc (own := [("k", 10), ("name", 11)]) (g := gTup K 2 (gCons (gName 10) (gCons (gName 11) (gNil)))) (tt := tYes) rfl nd (QB.pi_enumK K (by rfl) X.n_enumerate (pa_cons (pv 9) pa_nil)) (blkOk_by (N := ["pile", "many", "letters", "stem", "at", "shift", "pace", "plain", "tail", "some", "k", "name"]) (sc := defScope s__law_tags) (by decide +kernel)) (fun _ _ _ _ _ => pg_tup (by rfl) (pgs_cons (pg_name (i := 10) nd rfl (Or.inl rfl)) (pgs_cons (pg_name (i := 11) nd rfl (Or.inl rfl)) (pgs_nil)))) (fun _ _ _ _ _ => pts_nil) (fun _ _ _ _ _ => (pe_op op_add_str (pv 11) (pe_op QO.op_mul_str (pv 8) (pe_op op_mod (pv 10) pe_int))))))))))))))), ?_⟩
    try dsimp only [Cx.nox, Cx.wish, cxOf]
    refine ⟨⟨_, rfl⟩, _, rfl, ?_⟩
    refine ⟨p, 8, rfl, by decide, by decide, hp, fun r H1 hr1 x1 p1 => ?_⟩
    refine ⟨_, rfl, by omega, by omega, fun D hD => ?_⟩
    have hDp : D ≠ p := fun z => by
      subst z
      obtain ⟨_, _, _, h⟩ := p1
      rw [h] at hD
      cases hD
    refine lc_it (walk_range (lo := 0) (n := r)) (fun i H' => Exc [p] H1 H' ∧ PileAt H' p ∧ ∃ ys : List Nat, ys.length = i ∧ H' D = some (.lst (ys.map fun y => V.str ⟨#[97 + y]⟩)) ∧ ∀ y ∈ ys, y < 26)
      ⟨Exc.refl.mut (.inr hD), p1.upd hDp.symm, [], rfl, upd_same, fun _ h => nomatch h⟩ (fun _ _ _ _ => True.intro) ?_ ?_
    · rintro i x H2 H3 hi ⟨x2, p2, ys, hl, hDl, hy⟩ ⟨rfl, rfl⟩
      refine ⟨rfl, _, rfl, _, rfl, ?_⟩
      refine ⟨p, 26, rfl, by decide, by decide, p2, fun r2 H4 hr2 x4 p4 => ?_⟩
      refine ⟨abc, _, _, rfl, rfl, by omega, by omega, by rw [abc_len]; omega, abc_item (by omega) (by omega), ?_⟩
      have hD4 := x4 D _ (by simpa using hDp) hDl
      refine ⟨_, hD4, by rw [List.length_map]; exact sz_lt (by omega), (x2.trans x4).mut (.inr hD), p4.upd hDp.symm, ys ++ [r2], by rw [List.length_append, hl]; rfl, ?_, ?_⟩
      · rw [upd_same, List.map_append]
        rfl
      · intro y hy'
        rcases List.mem_append.mp hy' with h | h
        · exact hy y h
        · rw [List.mem_singleton.mp h]
          exact hr2
    · rintro H2 ⟨x2, p2, ys, hl, hDl, hy⟩
      have hys : ys.map (fun y => V.str ⟨#[97 + y]⟩) = (ys.map fun y => (⟨#[97 + y]⟩ : Str)).map V.str := by rw [List.map_map]; rfl
      rw [hys] at hDl
      refine ⟨_, D, ys.map fun y => (⟨#[97 + y]⟩ : Str), rfl, rfl, .inl (SqL.of hDl), ?_, ?_⟩
      · rw [sum_ones, List.length_map]
        show ys.length + ys.length * 0 ≤ 16777216
        omega
      have hw : tl (Txt.join (Str.ofString "") (ys.map fun y => (⟨#[97 + y]⟩ : Str))) = ys.map (97 + ·) := by
        rw [show Str.ofString "" = Str.empty from rfl, tl_join0, List.map_map]
        clear hDl hys hl hy
        induction ys with
        | nil => rfl
        | cons y ys ih =>
          rw [List.map_cons, List.flatten_cons, ih]
          rfl
      generalize Txt.join (Str.ofString "") (ys.map fun y => (⟨#[97 + y]⟩ : Str)) = w at hw ⊢
      have hwl : w.length = r := by
        rw [len_tl w, show (tl w).length = (ys.map (97 + ·)).length from congrArg List.length hw, List.length_map]
        exact hl
      have hwc : ∀ c ∈ tl w, 97 ≤ c ∧ c < 123 := fun c hc => by
        rw [hw] at hc
        obtain ⟨y, hy', rfl⟩ := List.mem_map.mp hc
        have := hy y hy'
        omega
      have xA := x1.trans x2
      clear hw hys hDl hy
      show tSeq _ _ _ _ _
      have hsz : w.length ≤ sizeLine := by rw [hwl]; exact Nat.le_trans (Nat.le_of_lt hr1) (by decide)
      refine ⟨_, rfl, _, rfl, w, rfl, hsz, _, _, rfl, rfl, ?_⟩
      refine ⟨p, w.length + 1, rfl, by omega, by omega, p2, fun at_ H3 hat x3 p3 => ?_⟩
      refine ⟨_, rfl, p, 26, rfl, by decide, by decide, p3, fun sh H4 hsh x4 p4 => ?_⟩
      refine ⟨by show 12 ≤ sizeLine; decide, fun t1 ht1 => ?_⟩
      have s5 := same_new (o := .lst (paces.map fun n : Nat => V.int (n : Int))) ht1
      refine ⟨_, rfl, p, 12, rfl, by decide, by decide, p4.same s5, fun pi H5 hpi x5 p5 => ?_⟩
      have hpl : paces[pi]? = some (paces[pi]'hpi) := List.getElem?_eq_getElem hpi
      have hpm : paces[pi]'hpi ∈ paces := List.getElem_mem hpi
      have ht1p := p4.ne ht1
      refine ⟨t1, _, _, V.int ((paces[pi]'hpi : Nat) : Int), rfl, rfl, SqL.of (x5 t1 _ (by simpa using ht1p.symm) upd_same), atI_nat (by
        show (paces.map fun n : Nat => V.int (n : Int))[pi]? = _
        rw [List.getElem?_map, hpl]
        rfl), ?_⟩
      generalize paces[pi]'hpi = pc at hpm hpl ⊢
      have xB := (((xA.trans x3).trans x4).trans (.of s5)).trans x5
      clear s5 x5 hpl ht1p ht1 xA x3 x4 p3 p4 p2 x2 p1 x1 hD
      show tSeq _ _ _ (List.set _ 6 _) _
      generalize hσ : List.set _ 6 _ = σ6
      have eσ : σ6 = [some (.ref p), some (.int (m : Int)), some (.str abc), some (.str w), some (.int (at_ : Int)), some (.int (sh : Int)), some (.int (pc : Int)), none, none, none, none, none] := by
        rw [← hσ]
        rfl
      subst eσ
      clear hσ
      refine ⟨_, rfl, _, _, rfl, rfl, by show (0 : Int) < 4; decide, ?_⟩
      refine ⟨rfl, _, rfl, ?_⟩
      generalize decide (_ = V.int 3) = bb
      cases bb
      · refine iteF ?_
        refine ⟨_, rfl, w, rfl, hsz, _, _, rfl, rfl, .inr ⟨_, rfl, Str.ofString "a", rfl, ?_⟩⟩
        by_cases h7 : w.length < 7
        case' pos =>
          rw [decide_eq_true (show (w.length : Int) < 7 by omega)]
          refine .inr ⟨rfl, ?_⟩
          have hT : ∀ i, tailOf w i = if i % 2 = 0 then Str.empty else Str.ofString "a" := fun i => by
            unfold tailOf tailB
            rw [if_pos h7]
        case' neg =>
          rw [decide_eq_false (show ¬ (w.length : Int) < 7 by omega)]
          refine .inl ⟨rfl, ?_⟩
          have hT : ∀ i, tailOf w i = if i % 2 = 0 then Str.empty else Str.empty := fun i => by
            unfold tailOf tailB
            rw [if_neg h7]
        all_goals
          clear h7
          refine ⟨_, rfl, (m : Int), rfl, by omega, by omega, fun D2 hD2 => ?_⟩
          refine lc_map (walk_range (lo := 0) (n := m)) hD2 (by omega) (fun _ _ => True.intro) (fun i => .str (nameOf w at_ sh pc i)) ?_ ?_
          · rintro i x H6 H7 kk hi s6 ⟨rfl, rfl⟩ hk
            have hv : ((sh : Int) + (pc : Int) * (0 + (i : Nat))) % 26 = (((sh + pc * i) % 26 : Nat) : Int) := by
              rw [Int.zero_add, ← Int.natCast_mul, ← Int.natCast_add]
              omega
            have hc := cut_lens w at_
            refine ⟨rfl, ?_⟩
            refine ⟨_, rfl, _, rfl, _, rfl, w, rfl, hsz, ?_⟩
            refine ⟨_, rfl, _, rfl, _, rfl, _, rfl, _, _, rfl, rfl, ?_, _, _, rfl, rfl, _, _, rfl, rfl, by show (0 : Int) < 26; decide, ?_⟩
            · refine .inl ⟨?_, ?_⟩
              · show -(2 ^ 64) < (pc : Int)
                omega
              · show (pc : Int) < 2 ^ 64
                have : ∀ c ∈ paces, c < 100 := by decide
                have := this pc hpm
                omega
            have hlt : (sh + pc * i) % 26 < 26 := Nat.mod_lt _ (by decide)
            refine ⟨abc, (((sh + pc * i) % 26 : Nat) : Int), 97 + (sh + pc * i) % 26, rfl, congrArg V.int hv, by omega, by omega, by rw [abc_len]; omega, abc_item (by omega) (by omega), ?_⟩
            refine ⟨_, _, rfl, rfl, ?_, ?_⟩
            · show _ + 1 ≤ sizeLine
              exact sz_le (by omega)
            refine ⟨_, rfl, _, rfl, _, rfl, w, rfl, hsz, ?_⟩
            refine ⟨_, _, rfl, rfl, ?_, ?_⟩
            · rw [len_add]
              show _ + 1 + _ ≤ sizeLine
              exact sz_le (by omega)
            exact hk _ (Same.refl _)
          · intro H6 s6 e6
            have tg := names_tags (w := w) (at_ := at_) (sh := sh) (pc := pc) (m := m) (by omega) hwc hsh hpm m0 m1
            have hl := name_len w at_ sh pc
            generalize hnm : nameOf w at_ sh pc = nm at e6 tg hl
            have ht := tailOf_len w
            generalize htm : tailOf w = tm at hT ht tg
            have e6 : WordAt H6 D2 ((List.range m).map nm) := by
              unfold WordAt vS
              rw [List.map_map]
              exact e6
            have hn := fun i (hi : i < m) => show ((List.range m).map nm)[i]? = some (nm i) by
              rw [List.getElem?_map, List.getElem?_range hi]
              rfl
            have hnl : ((List.range m).map nm).length = m := by rw [List.length_map, List.length_range]
            have wk := walk_enumW (K := K) (a := D2) (w := (List.range m).map nm)
            rw [hnl] at wk
            generalize (List.range m).map nm = ns at e6 hn wk
            clear hwc hnm htm hpm hsh
            refine ⟨_, rfl, D2, _, rfl, SqL.of e6, fun D3 hD3 => ?_⟩
            refine lc_map wk hD3 (by omega) (fun H8 s8 => Same.word s8 e6) (fun i => .str (nm i ++ tm i)) ?_ ?_
            · rintro i x H7 H8 kk hi s7 ⟨t, y, hy, nt, rfl, rfl⟩ hk
              rw [hn i hi] at hy
              cases hy
              have s8 := Same.new (Same.refl H7) (o := .tup [.int (i : Int), .str (nm i)]) nt
              refine ⟨t, _, rfl, SqT.of upd_same, rfl, _, _, rfl, _, _, rfl, rfl, rfl, ?_⟩
              refine ⟨_, rfl, _, rfl, _, rfl, _, _, rfl, rfl, by show (0 : Int) < 2; decide, ?_⟩
              have e0 := hk _ s8
              have hl := hl i
              have ht := ht i
              by_cases h2 : i % 2 = 0
              · have e2 := (hT i).trans (if_pos h2)
                rw [e2] at e0 ht
                exact ⟨_, rfl, .inl ⟨congrArg V.int (show (i : Int) % 2 = 0 by omega), _, _, rfl, rfl, sz_le (by omega), e0⟩⟩
              · have e2 := (hT i).trans (if_neg h2)
                rw [e2] at e0 ht
                exact ⟨_, rfl, .inr ⟨congrArg V.int (show (i : Int) % 2 = 1 by omega), _, _, rfl, rfl, sz_le (by omega), e0⟩⟩
            · intro H7 s7 e7
              have s57 := s6.trans s7
              refine q ((List.range m).map fun i => nm i ++ tm i) D3 H7 tg (by rw [List.length_map, List.length_range]) (xB.trans (.of s57)) (p5.same s57) (hp.free xB p5 (s6.free hD3)) ?_
              unfold WordAt vS
              rw [List.map_map]
              exact e7
      · refine iteT ?_
        refine ⟨by show 8 ≤ sizeLine; decide, fun t2 ht2 => ?_⟩
        have s6 : Same H5 (upd H5 t2 (.lst (vS plains))) := same_new ht2
        have h6 : (upd H5 t2 (.lst (vS plains))) t2 = some (.lst (vS plains)) := upd_same
        have e6 : upd H5 t2 (.lst (vS plains)) = upd H5 t2 (.lst [V.str (Str.ofString "re"), V.str (Str.ofString "fwd"), V.str (Str.ofString "list"), V.str (Str.ofString "r"), V.str (Str.ofString "aw"), V.str (Str.ofString "ref"), V.str (Str.ofString "a"), V.str (Str.ofString "fw")]) := rfl
        generalize upd H5 t2 (.lst (vS plains)) = H6 at s6 h6 e6
        rw [← e6]
        clear e6
        refine ⟨_, rfl, _, rfl, _, _, rfl, rfl, ⟨by decide, by decide⟩, _, _, rfl, rfl, by show (0 : Int) < 3; decide, _, rfl, ?_⟩
        refine ⟨t2, _, rfl, SqL.of h6, fun t3 ht3 => ?_⟩
        rw [show (sh : Int) / 4 % 3 = ((sh / 4 % 3 : Nat) : Int) by omega, cut_drop, vS_drop]
        have s7 : Same H5 (upd H6 t3 (.lst (vS (plains.drop (sh / 4 % 3))))) := Same.new s6 ht3
        refine ⟨_, rfl, t3, t2, _, _, rfl, rfl, upd_same, Eq.trans (upd_ne (ne_of_none h6 ht3)) h6, ?_, fun t4 ht4 => ?_⟩
        · rw [vS_len, vS_len, List.length_drop]
          exact sz_le (by show 8 - _ + 8 ≤ 100000; omega)
        rw [vS_append]
        have s8 := Same.new s7 (o := .lst (vS (plains.drop (sh / 4 % 3) ++ plains))) ht4
        refine ⟨_, rfl, _, rfl, t4, _, rfl, SqL.of upd_same, fun t5 ht5 => ?_⟩
        rw [cut_take, vS_take]
        have s9 := Same.new s8 (o := .lst (vS ((plains.drop (sh / 4 % 3) ++ plains).take m))) ht5
        have n5 := s8.free ht5
        exact q _ t5 _ (plains_tags (by omega) m0 m1) (plains_len _ (by omega) _ (by omega)) (xB.trans (.of s9)) (p5.same s9) (hp.free xB p5 n5) upd_same
end
end Law
end

section
set_option Elab.async false
set_option linter.all false
set_option maxRecDepth 100000
set_option maxHeartbeats 4000000
namespace QV
open PySem PySem.Spec PyProof.Rows L2
/-- the letters of a text -/
def sgn (x : Str) : List V := x.cps.toList.map fun c => V.str ⟨#[c]⟩
def rListS : List V → Hp → VK → Prop := fun xs H Q => ∃ x, xs = [.str x] ∧ x.cps.size ≤ sizeLine ∧ ∀ q, H q = none → Q (.ref q) (upd H q (.lst (sgn x)))
theorem call_listS {X : Cx} (hc : X.calm = true) : CallR X (.type "list") rListS := by
  intro pins s σ H xs us Q I r h
  obtain ⟨x, e, hz, q⟩ := h
  subst e
  obtain ⟨u, eu, rx⟩ := vals1 r
  subst eu
  obtain ⟨t, rfl⟩ := rx
  refine call_list_str (I.ok.hd hc) x t (fun h' tk acc' c' hkeep hS hacc => ?_) hz
  refine ⟨.ref s.heap.objs.size, upd H s.heap.objs.size (.lst (sgn x)), I.laid hkeep (Nat.le_refl _) (show ObjOk X.prog X.w _ _ _ (.lst (sgn x)) from ⟨?_, acc'.toList, c', ?_, ?_⟩), rfl, q _ (I.hok.fresh (Nat.le_refl _))⟩
  · show (List.map _ _).length ≤ _
    rw [List.length_map, Array.length_toList]; exact hz
  · have el : acc'.toList.length = acc'.size := by simp
    refine vals_of_at (by show (List.map _ _).length = _; rw [List.length_map, Array.length_toList, el, hacc.1]) fun j y w h1 h2 => ?_
    obtain ⟨c, u, hcj, rfl⟩ := hacc.2 j w (by rw [← Array.getElem?_toList]; exact h2)
    have e2 : (sgn x)[j]? = some (V.str ⟨#[c]⟩) := by
      show (List.map _ _)[j]? = _
      rw [List.getElem?_map, Array.getElem?_toList, hcj] <;> rfl
    rw [e2] at h1
    cases h1
    exact ⟨u, rfl⟩
  · rw [Array.toArray_toList]; exact hS
theorem op_repTK {X : Cx} (K : PySem.W.Frag) (h : X.K = K := by rfl) : OpR X (binaryOp .Mult) (rRepT K) := h ▸ op_repT
end QV
end

section
set_option Elab.async false
set_option linter.all false
set_option maxRecDepth 100000
set_option maxHeartbeats 4000000
namespace Law
open PySem PySem.Spec PyProof.Rows L2 LamX QB QM QV
theorem wordExc {H H' : Hp} {p a : Addr} {t : Word} (e : Exc [p] H H') (n : a ≠ p) (h : WordAt H a t) : WordAt H' a t := e _ _ (by simpa using n) h
theorem PileAt.word {H : Hp} {p a : Addr} {t : Word} (h : PileAt H p) (ha : WordAt H a t) : a ≠ p := fun z => by
  subst z
  obtain ⟨_, _, _, h⟩ := h
  unfold WordAt at ha
  rw [h] at ha
  injection ha with ha
  injection ha with ha
  cases t with
  | nil => cases ha
  | cons => cases ha
theorem atI_last' {ys : List V} {v : V} (h : ys.getLast? = some v) : atI ys (-1) = some v := by
  have pos : 1 ≤ ys.length := by
    cases ys with
    | nil => cases h
    | cons _ _ => rw [List.length_cons]; omega
  have e : ixN ys.length (-1) = some (ys.length - 1) := by
    unfold ixN
    rw [if_neg (by decide), if_pos (by omega)]
    congr 1
    omega
  unfold atI
  rw [e]
  rw [List.getLast?_eq_getElem?] at h
  exact h
/-! the heap without some addresses: the pile and what is yet to be changed -/
def hide (M : List Addr) (H : Hp) : Hp := fun a => if a ∈ M then none else H a
theorem hide_at {M : List Addr} {a : Addr} {H : Hp} {o : HO} (n : a ∉ M) (h : H a = some o) : hide M H a = some o := by
  unfold hide
  rw [if_neg n]
  exact h
theorem hide_get {M : List Addr} {a : Addr} {H : Hp} {o : HO} (h : hide M H a = some o) : a ∉ M ∧ H a = some o := by
  unfold hide at h
  by_cases e : a ∈ M
  · rw [if_pos e] at h
    cases h
  · rw [if_neg e] at h
    exact ⟨e, h⟩
theorem hide_exc {M : List Addr} {p : Addr} {H H' : Hp} (hp : p ∈ M) (x : Exc [p] H H') : Same (hide M H) (hide M H') := fun a o h => by
  obtain ⟨n, h⟩ := hide_get h
  exact hide_at n (x a o (fun z => n (List.mem_singleton.mp z ▸ hp)) h)
theorem hide_same {M : List Addr} {H H' : Hp} (x : Same H H') : Same (hide M H) (hide M H') := fun a o h => by
  obtain ⟨n, h⟩ := hide_get h
  exact hide_at n (x a o h)
theorem hide_dv {M : List Addr} {H : Hp} : Same (hide M H) H := fun a o h => (hide_get h).2
theorem tr_same {M : List Addr} {H H' : Hp} (h : ∀ b ∈ M, H b ≠ none) (s : Same H H') : ∀ b ∈ M, H' b ≠ none := fun b hb e => h b hb (s.free e)
theorem tr_exc {M : List Addr} {p : Addr} {H H' : Hp} (h : ∀ b ∈ M, H b ≠ none) (x : Exc [p] H H') (hp : PileAt H' p) : ∀ b ∈ M, H' b ≠ none := fun b hb e => by
  by_cases z : b = p
  · subst z
    obtain ⟨_, _, _, q⟩ := hp
    rw [q] at e
    cases e
  · cases q : H b with
    | none => exact h b hb q
    | some o =>
      rw [x b o (by simpa using z) q] at e
      cases e
/-! data that are soon written -/
def okD (d : PyData) : Bool := d.leavesShort 30 && d.showable
structure Sm (n k : Nat) (d : PyData) : Prop where
  ok : okD d = true
  w : d.weight ≤ n
  dp : d.depth ≤ k
structure SmL (n k : Nat) (ds : List PyData) : Prop where
  ok : ∀ e ∈ ds, okD e = true
  dp : ∀ e ∈ ds, e.depth ≤ k
  w : PyData.weightAll ds ≤ n
theorem Sm.mono {n m k j : Nat} {d : PyData} (h : Sm n k d) (a : n ≤ m) (b : k ≤ j) : Sm m j d := ⟨h.ok, Nat.le_trans h.w a, Nat.le_trans h.dp b⟩
theorem SmL.mono {n m k j : Nat} {d : List PyData} (h : SmL n k d) (a : n ≤ m) (b : k ≤ j) : SmL m j d := ⟨h.ok, fun e he => Nat.le_trans (h.dp e he) b, Nat.le_trans h.w a⟩
theorem depthAll_le {k : Nat} : ∀ {ds : List PyData}, (∀ e ∈ ds, e.depth ≤ k) → PyData.depthAll ds ≤ k
  | [], _ => Nat.zero_le _
  | d :: ds, h => by
    rw [PyData.depthAll]
    exact Nat.max_le.mpr ⟨h d List.mem_cons_self, depthAll_le fun e he => h e (List.mem_cons_of_mem _ he)⟩
theorem okAll : ∀ {ds : List PyData}, (∀ e ∈ ds, okD e = true) → PyData.leavesShortAll 30 ds = true ∧ PyData.showableAll ds = true
  | [], _ => ⟨rfl, rfl⟩
  | d :: ds, h => by
    obtain ⟨a, b⟩ := okAll fun e he => h e (List.mem_cons_of_mem _ he)
    have c := h d List.mem_cons_self
    unfold okD at c
    rw [Bool.and_eq_true] at c
    rw [PyData.leavesShortAll, PyData.showableAll, c.1, c.2, a, b]
    exact ⟨rfl, rfl⟩
theorem SmL.list {n k : Nat} {ds : List PyData} (h : SmL n k ds) : Sm n (k + 1) (.list ds) := by
  obtain ⟨a, b⟩ := okAll h.ok
  refine ⟨?_, by rw [w_list]; exact h.w, ?_⟩
  · unfold okD
    rw [PyData.leavesShort, PyData.showable, a, b]
    rfl
  · rw [PyData.depth]
    have := depthAll_le h.dp
    omega
theorem SmL.tuple {n k : Nat} {ds : List PyData} (h : SmL n k ds) : Sm n (k + 1) (.tuple ds) := by
  obtain ⟨a, b⟩ := okAll h.ok
  refine ⟨?_, by rw [w_tuple]; exact h.w, ?_⟩
  · unfold okD
    rw [PyData.leavesShort, PyData.showable, a, b]
    rfl
  · rw [PyData.depth]
    have := depthAll_le h.dp
    omega
theorem weightAll_app : ∀ (a b : List PyData), PyData.weightAll (a ++ b) = PyData.weightAll a + PyData.weightAll b
  | [], b => by
    rw [List.nil_append, PyData.weightAll]
    omega
  | d :: a, b => by
    rw [List.cons_append, PyData.weightAll, PyData.weightAll, weightAll_app a b]
    omega
theorem SmL.nil {k : Nat} : SmL 0 k [] := ⟨(fun _ h => nomatch h), (fun _ h => nomatch h), Nat.le_refl _⟩
theorem SmL.cons {n m k : Nat} {d : PyData} {ds : List PyData} (a : Sm m k d) (b : SmL n k ds) : SmL (m + 1 + n) k (d :: ds) := by
  refine ⟨fun e he => ?_, fun e he => ?_, ?_⟩
  · rcases List.mem_cons.mp he with rfl | he
    · exact a.ok
    · exact b.ok e he
  · rcases List.mem_cons.mp he with rfl | he
    · exact a.dp
    · exact b.dp e he
  · rw [PyData.weightAll]
    have := a.w
    have := b.w
    omega
theorem SmL.app {n m k : Nat} {a b : List PyData} (h : SmL n k a) (g : SmL m k b) : SmL (n + m) k (a ++ b) := by
  refine ⟨fun e he => ?_, fun e he => ?_, ?_⟩
  · rcases List.mem_append.mp he with he | he
    · exact h.ok e he
    · exact g.ok e he
  · rcases List.mem_append.mp he with he | he
    · exact h.dp e he
    · exact g.dp e he
  · rw [weightAll_app]
    have := h.w
    have := g.w
    omega
theorem SmL.take {n k : Nat} {a : List PyData} (i : Nat) (h : SmL n k a) : SmL n k (a.take i) := by
  refine ⟨fun e he => h.ok e (List.mem_of_mem_take he), fun e he => h.dp e (List.mem_of_mem_take he), ?_⟩
  have := weightAll_app (a.take i) (a.drop i)
  rw [List.take_append_drop] at this
  have := h.w
  omega
theorem SmL.drop {n k : Nat} {a : List PyData} (i : Nat) (h : SmL n k a) : SmL n k (a.drop i) := by
  refine ⟨fun e he => h.ok e (List.mem_of_mem_drop he), fun e he => h.dp e (List.mem_of_mem_drop he), ?_⟩
  have := weightAll_app (a.take i) (a.drop i)
  rw [List.take_append_drop] at this
  have := h.w
  omega
/-- taking out and putting in between -/
theorem SmL.both {n m k : Nat} {a : List PyData} {b : List PyData} (i j : Nat) (hij : i ≤ j) (h : SmL n k a) (g : SmL m k b) : SmL (n + m) k (a.take i ++ b ++ a.drop j) := by
  refine ⟨fun e he => ?_, fun e he => ?_, ?_⟩
  · rcases List.mem_append.mp he with he | he
    · rcases List.mem_append.mp he with he | he
      · exact h.ok e (List.mem_of_mem_take he)
      · exact g.ok e he
    · exact h.ok e (List.mem_of_mem_drop he)
  · rcases List.mem_append.mp he with he | he
    · rcases List.mem_append.mp he with he | he
      · exact h.dp e (List.mem_of_mem_take he)
      · exact g.dp e he
    · exact h.dp e (List.mem_of_mem_drop he)
  · rw [weightAll_app, weightAll_app]
    have e1 := weightAll_app (a.take i) (a.drop i)
    rw [List.take_append_drop] at e1
    have e2 := weightAll_app ((a.drop i).take (j - i)) ((a.drop i).drop (j - i))
    rw [List.take_append_drop, List.drop_drop, show i + (j - i) = j by omega] at e2
    have := h.w
    have := g.w
    omega
theorem sm_non {k : Nat} : Sm 0 k .none := ⟨rfl, Nat.le_refl _, by rw [PyData.depth]; exact Nat.zero_le _⟩
theorem sm_bl {k : Nat} (b : Bool) : Sm 0 k (.bool b) := ⟨by cases b <;> rfl, by rw [PyData.weight]; exact Nat.le_refl _, by rw [PyData.depth]; exact Nat.zero_le _⟩
theorem sm_dct {k : Nat} : Sm 0 (k + 1) (.dict []) := ⟨rfl, Nat.le_refl _, by rw [PyData.depth, PyData.depthKv]; omega⟩
theorem sm_str {k n : Nat} {t : Str} (h : PyData.strOk t = true) (hl : t.length ≤ n) : Sm n k (.str t) := by
  refine ⟨?_, by rw [w_str]; exact hl, by rw [PyData.depth]; exact Nat.zero_le _⟩
  unfold okD
  rw [PyData.leavesShort, PyData.showable, Bool.and_true, List.all_eq_true]
  unfold PyData.strOk at h
  rw [← Array.all_toList, List.all_eq_true] at h
  intro c hc
  have := of_decide_eq_true (h c hc)
  exact decide_eq_true (by omega)
theorem sm_nat {k : Nat} {i : Nat} (h : i ≤ 100) : Sm 8 k (.int (i : Int)) := by
  have all : ∀ i : Fin 101, okD (.int (i.val : Int)) = true ∧ (PyData.int (i.val : Int)).weight ≤ 8 := by decide +kernel
  obtain ⟨a, b⟩ := all ⟨i, by omega⟩
  exact ⟨a, b, by rw [PyData.depth]; exact Nat.zero_le _⟩
/-- one of some data -/
theorem pick {H : Hp} {n k : Nat} {xs : List V} {r : Nat} (hr : r < xs.length) (h : ∀ v ∈ xs, ∃ d, Dv H v d ∧ Sm n k d) : ∃ v, xs[r]? = some v ∧ ∃ d, Dv H v d ∧ Sm n k d :=
  ⟨xs[r], List.getElem?_eq_getElem hr, h _ (List.getElem_mem hr)⟩
theorem any_nil {H : Hp} {n k : Nat} : ∀ v ∈ ([] : List V), ∃ d, Dv H v d ∧ Sm n k d := fun _ h => nomatch h
theorem any_cons {H : Hp} {n k : Nat} {v : V} {xs : List V} {d : PyData} (h : Dv H v d) (s : Sm n k d) (g : ∀ v ∈ xs, ∃ d, Dv H v d ∧ Sm n k d) : ∀ u ∈ v :: xs, ∃ d, Dv H u d ∧ Sm n k d := fun u hu => by
  rcases List.mem_cons.mp hu with rfl | hu
  · exact ⟨d, h, s⟩
  · exact g u hu
theorem word_dv {H : Hp} : ∀ wd : Word, DvAll H (vS wd) (wd.map .str)
  | [] => .nil
  | t :: wd => .cons (.str t) (word_dv wd)
theorem name_sm {k : Nat} {t : Str} (h : NameOk t) : Sm 8 k (.str t) := sm_str h.txt h.len
theorem word_sm {k : Nat} : ∀ {wd : Word}, (∀ t ∈ wd, NameOk t) → SmL (9 * wd.length) k (wd.map .str)
  | [], _ => SmL.nil
  | t :: wd, h => by
    have := SmL.cons (name_sm (k := k) (h t List.mem_cons_self)) (word_sm fun u hu => h u (List.mem_cons_of_mem _ hu))
    exact this.mono (by rw [List.length_cons]; omega) (Nat.le_refl _)
theorem any_same {H H' : Hp} {n k : Nat} {xs : List V} (h : ∀ v ∈ xs, ∃ d, Dv H v d ∧ Sm n k d) (s : Same H H') : ∀ v ∈ xs, ∃ d, Dv H' v d ∧ Sm n k d := fun v hv => by
  obtain ⟨d, a, b⟩ := h v hv
  exact ⟨d, a.same s, b⟩
theorem any_app {H : Hp} {n k : Nat} {xs ys : List V} (h : ∀ v ∈ xs, ∃ d, Dv H v d ∧ Sm n k d) (g : ∀ v ∈ ys, ∃ d, Dv H v d ∧ Sm n k d) : ∀ v ∈ xs ++ ys, ∃ d, Dv H v d ∧ Sm n k d := fun v hv => by
  rcases List.mem_append.mp hv with hv | hv
  · exact h v hv
  · exact g v hv
theorem sm_great : Sm 70 1 (.int (10 ^ 20)) := ⟨by decide +kernel, by decide +kernel, by rw [PyData.depth]; exact Nat.zero_le _⟩
theorem sm_less : Sm 70 1 (.int (-1)) := ⟨by decide +kernel, by decide +kernel, by rw [PyData.depth]; exact Nat.zero_le _⟩
theorem tabsExc {T : List (Addr × Str)} {H H' : Hp} {p : Addr} (t : Tabs T H) (e : Exc [p] H H') (hp : PileAt H p) : Tabs T H' := fun q hq => by
  obtain ⟨ps, h1, h2, h3⟩ := t q hq
  obtain ⟨_, _, _, hp⟩ := hp
  have k : ∀ {a : Addr} {o : HO}, H a = some o → (∀ xs, o ≠ .lst xs) → H' a = some o := fun {a o} h n => e a o (by
    have : a ≠ p := fun z => by
      subst z
      rw [hp] at h
      exact n _ (Option.some.inj h).symm
    simpa using this) h
  refine ⟨ps, k h1 (fun _ z => nomatch z), h2, fun pos cv hc => ?_⟩
  obtain ⟨c, e1, e2⟩ := h3 pos cv hc
  exact ⟨c, e1, k e2 (fun xs z => (show Plain (.lst xs) from trivial).code c _ z.symm)⟩
theorem extExc {T : List (Addr × Str)} {H H1 H2 : Hp} {p : Addr} (a : QB.Ext T H H1) (e : Exc [p] H1 H2) (f : Fresh H p) (hp : PileAt H1 p) : QB.Ext T H H2 :=
  ⟨fun b o h n => e b o (by
    have := f.ne h n
    simpa using this) (a.1 b o h n), fun t => tabsExc (a.2 t) e hp⟩
theorem Sm.shows {d : PyData} (h : Sm 50000 40 d) : Shows d := by
  have := h.ok
  unfold okD at this
  rw [Bool.and_eq_true] at this
  exact ⟨this.1, this.2, Nat.le_trans h.w (by decide), h.dp⟩
/-! what is told, as data -/
/-! what is due, as data -/
theorem sm_int {k : Nat} {i : Nat} (h : i ≤ 2000) : Sm 12 k (.int (i : Int)) := by
  have all : ∀ i : Fin 2001, okD (.int (i.val : Int)) = true ∧ (PyData.int (i.val : Int)).weight ≤ 12 := by decide +kernel
  obtain ⟨a, b⟩ := all ⟨i, by omega⟩
  exact ⟨a, b, by rw [PyData.depth]; exact Nat.zero_le _⟩
theorem len_le_w : ∀ ds : List PyData, ds.length ≤ PyData.weightAll ds
  | [] => Nat.zero_le _
  | d :: ds => by
    have := len_le_w ds
    rw [PyData.weightAll, List.length_cons]
    omega
def PlainI (iv : V) : Prop := iv = .non ∨ ∃ i : Nat, i ≤ 2000 ∧ iv = .int (i : Int)
theorem idx_plain {p : Nat → Bool} {n : Nat} {iv : V} (h : idx (firstBad p n) = some iv) (hn : n ≤ 2000) : PlainI iv := by
  cases e : firstBad p n with
  | none =>
    rw [e] at h
    cases h
  | some i =>
    rw [e] at h
    cases h
    refine .inr ⟨i, ?_, rfl⟩
    have := List.mem_range.mp (List.mem_of_find?_eq_some e)
    omega
theorem tagsDue_plainI {d : PyData} {iv : V} (h : tagsDue d = some iv) : PlainI iv := by
  cases d with
  | list ds =>
    have h : (if 1 ≤ ds.length ∧ ds.length ≤ 6 then idx (firstBad (badTag ds) ds.length) else some .non) = some iv := h
    split at h
    · exact idx_plain h (by omega)
    · cases h
      exact .inl rfl
  | _ =>
    cases h
    exact .inl rfl
theorem wordDue_plain {tags : List Str} {most : Nat} {d : PyData} {iv : V} (hm : most ≤ 2000) (h : wordDue tags most d = some iv) : PlainI iv := by
  cases d with
  | list ds =>
    have h : (if ds.length ≤ most then idx (firstBad (badWord tags ds) ds.length) else some .non) = some iv := h
    split at h
    · exact idx_plain h (by omega)
    · cases h
      exact .inl rfl
  | _ =>
    cases h
    exact .inl rfl
theorem someDue_plain {tags : List Str} {d : PyData} {iv : V} (w : d.weight ≤ 2000) (h : someDue tags d = some iv) : PlainI iv := by
  cases d with
  | list ds =>
    rw [w_list] at w
    exact idx_plain h (Nat.le_trans (len_le_w ds) w)
  | _ =>
    cases h
    exact .inl rfl
theorem pairsDue_plain {tags : List Str} {d : PyData} {iv : V} (w : d.weight ≤ 2000) (h : pairsDue tags d = some iv) : PlainI iv := by
  cases d with
  | list ds =>
    rw [w_list] at w
    exact idx_plain h (Nat.le_trans (len_le_w ds) w)
  | _ =>
    cases h
    exact .inl rfl
def IvOk (y z iv : V) : Prop := PlainI iv ∨ iv = y ∨ iv = z
theorem els_iv {P : V → Prop} {a b : DueM} (ha : ∀ k iv, a = some (k, iv) → P iv) (hb : ∀ k iv, b = some (k, iv) → P iv) : ∀ k iv, els a b = some (k, iv) → P iv := fun k iv h => by
  cases a with
  | none => exact hb k iv h
  | some x => exact ha k iv h
theorem map_iv {P : V → Prop} {o : Option V} {c : K5} (h : ∀ iv, o = some iv → P iv) : ∀ k iv, (o.map fun iv => (c, iv)) = some (k, iv) → P iv := fun k iv e => by
  cases o with
  | none => cases e
  | some x =>
    cases e
    exact h _ rfl
theorem way_iv {way : Nat} {dv dy dz : PyData} {y z : V} (wy : dy.weight ≤ 2000) : ∀ k iv, wayM way dv y dy z dz = some (k, iv) → IvOk y z iv := by
  have t1 : ∀ k iv, tagsM dv = some (k, iv) → IvOk y z iv := map_iv fun iv h => .inl (tagsDue_plainI h)
  have t2 : ∀ {tags : List Str} k iv, tagM tags y dy = some (k, iv) → IvOk y z iv := fun {tags} k iv h => by
    have h : (if tagD tags dy = true then none else some (K5.tag, y)) = some (k, iv) := h
    split at h
    · cases h
    · cases h
      exact .inr (.inl rfl)
  have t3 : ∀ k iv, numM z dz = some (k, iv) → IvOk y z iv := fun k iv h => by
    have h : (if numD 0 20 dz = true then none else some (K5.number, z)) = some (k, iv) := h
    split at h
    · cases h
    · cases h
      exact .inr (.inr rfl)
  unfold wayM
  split
  · exact t1
  · split
    · exact els_iv t1 (map_iv fun iv h => .inl (wordDue_plain (by decide) h))
    · split
      · refine els_iv t1 (els_iv (map_iv fun iv h => .inl (someDue_plain wy h)) ?_)
        split
        · exact fun _ _ h => nomatch h
        · exact t3
      · split
        · exact els_iv t1 t2
        · split
          · exact els_iv t1 (map_iv fun iv h => .inl (pairsDue_plain wy h))
          · exact els_iv t1 (els_iv t2 t3)
theorem due_data {way : Nat} {dv dy dz : PyData} {y z : V} (sy : Sm 2000 5 dy) (sz : Sm 2000 5 dz) :
    ∃ D, Sm 5000 6 D ∧ ∀ H p, Dv H y dy → Dv H z dz → H p = some (.lst (dueL (wayM way dv y dy z dz))) → Dv H (.ref p) D := by
  cases e : wayM way dv y dy z dz with
  | none => exact ⟨.list [], (SmL.nil (k := 0)).list.mono (by omega) (by omega), fun H p _ _ h => .lst h .nil⟩
  | some x =>
    obtain ⟨k, iv⟩ := x
    have nm : ∀ {j : Nat}, Sm 8 j (.str k.name) := fun {j} => by
      cases k <;> exact sm_str (by decide +kernel) (by decide +kernel)
    rcases way_iv sy.w k iv e with (rfl | ⟨i, hi, rfl⟩) | rfl | rfl
    · exact ⟨.list [.str k.name, .none], (SmL.cons nm (SmL.cons (sm_non (k := 0)) .nil)).list.mono (by omega) (by omega), fun H p _ _ h => .lst h (.cons (.str _) (.cons .non .nil))⟩
    · exact ⟨.list [.str k.name, .int (i : Int)], (SmL.cons nm (SmL.cons (sm_int (k := 0) hi) .nil)).list.mono (by omega) (by omega), fun H p _ _ h => .lst h (.cons (.str _) (.cons (.int _) .nil))⟩
    · exact ⟨.list [.str k.name, dy], (SmL.cons nm (SmL.cons sy .nil)).list.mono (by omega) (by omega), fun H p hy _ h => .lst h (.cons (.str _) (.cons hy .nil))⟩
    · exact ⟨.list [.str k.name, dz], (SmL.cons nm (SmL.cons sz .nil)).list.mono (by omega) (by omega), fun H p _ hz h => .lst h (.cons (.str _) (.cons hz .nil))⟩
theorem flat_one (v : V) : ∀ n : Nat, (List.replicate n [v]).flatten = List.replicate n v
  | 0 => rfl
  | n + 1 => by
    rw [List.replicate_succ, List.flatten_cons, flat_one v n, List.replicate_succ]
    rfl
theorem sm_rep {n k : Nat} {d : PyData} (h : Sm n k d) : ∀ m : Nat, SmL (m * (n + 1)) k (List.replicate m d)
  | 0 => SmL.nil.mono (by omega) (Nat.le_refl _)
  | m + 1 => by
    rw [List.replicate_succ]
    exact (SmL.cons h (sm_rep h m)).mono (by rw [Nat.add_mul]; omega) (Nat.le_refl _)
theorem dv_rep {H : Hp} {v : V} {d : PyData} (h : Dv H v d) : ∀ m : Nat, DvAll H (List.replicate m v) (List.replicate m d)
  | 0 => .nil
  | m + 1 => by
    rw [List.replicate_succ, List.replicate_succ]
    exact .cons h (dv_rep h m)
theorem dv_app {H : Hp} : ∀ {xs ys : List V} {ds es : List PyData}, DvAll H xs ds → DvAll H ys es → DvAll H (xs ++ ys) (ds ++ es)
  | [], _, [], _, .nil, g => g
  | _ :: _, _, _ :: _, _, .cons h r, g => .cons h (dv_app r g)
theorem dv_take {H : Hp} : ∀ {xs : List V} {ds : List PyData} (n : Nat), DvAll H xs ds → DvAll H (xs.take n) (ds.take n)
  | _, _, 0, _ => by
    rw [List.take_zero, List.take_zero]
    exact .nil
  | [], [], _ + 1, .nil => .nil
  | _ :: _, _ :: _, n + 1, .cons h r => .cons h (dv_take n r)
/-! the pairs that are tried: a tag and the first -/
def prD (t0 : Str) (t : Str) : PyData := .tuple [.str t, .str t0]
def PrAt (H : Hp) (t0 : Str) (q : Addr) (t : Str) : Prop := H q = some (.tup [.str t, .str t0])
theorem lc_pairs {J : It} {n : Nat} {G : Hp → Prop} {Y : Nat → Hp → V → Hp → Prop} (w : Walk J n G Y) {g : TG} {te : TE} {vs : List Nat} {σ : L2.St} {H1 : Hp} {D : Addr} {Qd : Hp → Prop} (hD : H1 D = none) (hn : n ≤ 100000)
    (hG : ∀ H, Same H1 H → G H) (t0 : Str) (f : Nat → Str)
    (hs : ∀ (i : Nat) (x : V) (H H' : Hp) (k : VK), i < n → Same H1 H → Y i H x H' → (∀ (p : Addr) (H4 : Hp), Same H H4 → H p = none → PrAt H4 t0 p (f i) → k (.ref p) H4) →
      g x (wipe σ vs) H' fun σ2 H2 => wipe σ2 vs = wipe σ vs ∧ te σ2 H2 k)
    (hd : ∀ (H : Hp) (ts : List Addr), Same H1 H → H D = some (.lst (ts.map V.ref)) → Paired (fun q wd => H1 q = none ∧ PrAt H t0 q wd) ts ((List.range n).map f) → Qd H) :
    ∃ W : Nat → Nat → Hp → Prop, (∃ m, W 0 m (upd H1 D (.lst []))) ∧ ∀ i m H, W i m H →
      (J.stop i H ∧ Qd H) ∨ (J.go i H ∧ ∃ Nx : Hp → Prop, (∀ H', Nx H' → ∃ m', m' < m ∧ W (i + 1) m' H') ∧ ∀ x H', J.yld i H x H' → g x (wipe σ vs) H' fun σ2 H2 => wipe σ2 vs = wipe σ vs ∧ tYes σ2 H2 fun b H3 =>
        if b = true then te σ2 H3 fun y H4 => ∃ acc, H4 D = some (.lst acc) ∧ acc.length < sizeLine ∧ Nx (upd H4 D (.lst (acc ++ [y]))) else Nx H3) := by
  refine lc_it w (fun i H => Same H1 H ∧ ∃ ts : List Addr, H D = some (.lst (ts.map V.ref)) ∧ Paired (fun q wd => (H1 q = none ∧ q ≠ D) ∧ PrAt H t0 q wd) ts ((List.range i).map f)) ⟨Same.mut (Same.refl H1) hD, [], upd_same, .nil⟩ (fun i H _ h => hG H h.1) (fun i x H H' hi h y => ?_) fun H h => ?_
  · obtain ⟨s1, ts, e, hp⟩ := h
    have hl : ts.length = i := by rw [Paired.length hp, List.length_map, List.length_range]
    have q := hs i x H H' (fun y H4 => ∃ acc, H4 D = some (.lst acc) ∧ acc.length < sizeLine ∧ (Same H1 (upd H4 D (.lst (acc ++ [y]))) ∧ ∃ ts : List Addr, (upd H4 D (.lst (acc ++ [y]))) D = some (.lst (ts.map V.ref)) ∧ Paired (fun q wd => (H1 q = none ∧ q ≠ D) ∧ PrAt (upd H4 D (.lst (acc ++ [y]))) t0 q wd) ts ((List.range (i + 1)).map f))) hi s1 y
      fun p H4 s4 np hw => ⟨_, s4 _ _ e, by rw [List.length_map, hl]; exact sz_lt (by omega), Same.mut (s1.trans s4) hD, ts ++ [p], by rw [upd_same, List.map_append]; rfl, by
        rw [List.range_succ, List.map_append]
        have npD : p ≠ D := (ne_of_none e np).symm
        exact Paired.snoc (L2.Paired.mapP hp fun q wd ⟨⟨h1, h2⟩, h3⟩ => ⟨⟨h1, h2⟩, Eq.trans (upd_ne h2) (s4 _ _ h3)⟩) ⟨⟨s1.free np, npD⟩, Eq.trans (upd_ne npD) hw⟩⟩
    exact q
  · obtain ⟨s1, ts, e, hp⟩ := h
    exact hd H ts s1 e (L2.Paired.mapP hp fun q wd ⟨h1, h2⟩ => ⟨h1.1, h2⟩)
theorem prs_dv {H : Hp} {t0 : Str} : ∀ {ts : List Addr} {W : Word}, Paired (fun q t => PrAt H t0 q t) ts W → DvAll H (ts.map V.ref) (W.map (prD t0))
  | _, _, .nil => .nil
  | _, _, .cons h r => .cons (.tup h (.cons (.str _) (.cons (.str _) .nil))) (prs_dv r)
theorem prs_sm {t0 : Str} {k : Nat} (h0 : NameOk t0) : ∀ {W : Word}, (∀ t ∈ W, NameOk t) → SmL (19 * W.length) (k + 1) (W.map (prD t0))
  | [], _ => SmL.nil
  | t :: W, h => by
    have a := (SmL.cons (name_sm (k := k) (h t List.mem_cons_self)) (SmL.cons (name_sm (k := k) h0) .nil)).tuple
    exact (SmL.cons a (prs_sm h0 fun u hu => h u (List.mem_cons_of_mem _ hu))).mono (by rw [List.length_cons]; omega) (Nat.le_refl _)
end Law
end

section
set_option Elab.async false
set_option linter.all false
set_option maxRecDepth 100000
set_option maxHeartbeats 8000000
namespace Law
open PySem PySem.Spec PyProof.Rows L2 LamX QB QM QV
theorem strOk_app {x y : Str} (hx : PyData.strOk x = true) (hy : PyData.strOk y = true) : PyData.strOk (x ++ y) = true := by
  unfold PyData.strOk at *
  rw [← Array.all_toList] at *
  rw [show (x ++ y).cps = x.cps ++ y.cps from rfl, Array.toList_append, List.all_append, hx, hy]
  rfl
section
variable {P : Program} {w : World} {K : PySem.W.Frag} {mg : Str → Option Value} {base : Heap}
def spThings : Sp := fun vs H Q _ => ∃ (p a : Addr) (tags : Word), vs = [.ref p, .ref a] ∧ PileAt H p ∧ WordAt H a tags ∧ TagsOk tags ∧
  ∀ q v y z dv dy dz H', Exc [p] H H' → PileAt H' p → H' q = some (.tup [v, y, z]) → Dv H' v dv → Dv H' y dy → Dv H' z dz → Sm 2000 5 dv → Sm 2000 5 dy → Sm 2000 5 dz → Q (.ref q) H'
theorem ok__law_things (X : TX K mg) : FnOk P w K mg base CX0 4 X.d__law_things.a X.d__law_things.fd ["pile", "tags"] spThings := by
  have nd := sc__law_things.nd
  refine X.d__law_things.F.ok sc__law_things (fun vs H Q E h => ?_) (fun cdv A outer s0 H vs Q E hr h => ?_)
  · obtain ⟨p, a, tags, rfl, _⟩ := h
    rfl
  · obtain ⟨p, a, tags, rfl, P0, ha, to, q⟩ := h
    refine ⟨_, (pss_cons (ps_set (i := 2) nd rfl (Or.inl rfl) (pe_ix (QB.ix_listK K) (pe_lst (pa_cons pe_non (pa_cons pe_str (pa_cons (pe_op op_add_str (pe_ix (QB.ix_listK K) (pv 1) pe_int (fun _ _ => rfl)) pe_str) (pa_cons pe_int (pa_cons pe_bl (pa_cons (pe_lst (pa_cons (pe_ix (QB.ix_listK K) (pv 1) pe_int (fun _ _ => rfl)) pa_nil)) (pa_cons (pe_tup (pa_cons (pe_ix (QB.ix_listK K) (pv 1) pe_int (fun _ _ => rfl)) pa_nil)) (pa_cons pe_str (pa_cons pe_dnewK pa_nil)))))))))) (pe_call (ok__law_take X) (hr.mono (by decide)) rfl X.d__law_take.mg X.d__law_take.F.kp X.d__law_take.b .nil pass0 (pa_cons (pv 0) (pa_cons pe_int pa_nil))) (fun _ _ => rfl))) (pss_cons (ps_setLc (i := 3) (own := [("turn", 11)]) (g := gName 11) (tt := tYes) rfl nd rfl rfl (sw_true rfl rfl rfl (by decide +kernel)) (pi_range1 (by rfl) X.n_range (pa_cons (pe_call (ok__law_take X) (hr.mono (by decide)) rfl X.d__law_take.mg X.d__law_take.F.kp X.d__law_take.b .nil pass0 (pa_cons (pv 0) (pa_cons pe_int pa_nil))) pa_nil)) (blkOk_by (N := ["pile", "tags", "odd", "some", "at", "pairs", "bent", "menu", "one", "two", "book", "turn", "tag"]) (sc := defScope s__law_things) (by decide +kernel)) (fun _ _ _ _ _ => pg_name (i := 11) nd rfl (Or.inl rfl)) (fun _ _ _ _ _ => pts_nil) (fun _ _ _ _ _ => (pe_ix (QB.ix_listK K) (pv 1) (pe_call (ok__law_take X) (hr.mono (by decide)) rfl X.d__law_take.mg X.d__law_take.F.kp X.d__law_take.b .nil pass0 (pa_cons (pv 0) (pa_cons (pe_callB (QB.call_lenK K) (by rfl) X.n_len PySem.boot_len (pa_cons (pv 1) pa_nil)) pa_nil))) (fun _ _ => rfl)))) (pss_cons (ps_set (i := 4) nd rfl (Or.inl rfl) (pe_call (ok__law_take X) (hr.mono (by decide)) rfl X.d__law_take.mg X.d__law_take.F.kp X.d__law_take.b .nil pass0 (pa_cons (pv 0) (pa_cons (pe_op op_add (pe_callB (QB.call_lenK K) (by rfl) X.n_len PySem.boot_len (pa_cons (pv 3) pa_nil)) pe_int) pa_nil)))) (pss_cons (ps_setLc (i := 5) (own := [("tag", 12)]) (g := gName 12) (tt := tYes) rfl nd rfl rfl (sw_true rfl rfl rfl (by decide +kernel)) (QB.pi_listK K (pv 1)) (blkOk_by (N := ["pile", "tags", "odd", "some", "at", "pairs", "bent", "menu", "one", "two", "book", "turn", "tag"]) (sc := defScope s__law_things) (by decide +kernel)) (fun _ _ _ _ _ => pg_name (i := 12) nd rfl (Or.inl rfl)) (fun _ _ _ _ _ => pts_nil) (fun _ _ _ _ _ => (pe_tup (pa_cons (pv 12) (pa_cons (pe_ix (QB.ix_listK K) (pv 1) pe_int (fun _ _ => rfl)) pa_nil))))) (pss_cons (ps_set (i := 6) nd rfl (Or.inl rfl) (pe_lst (pa_cons (pe_tup (pa_cons (pv 2) (pa_cons (pe_ix (QB.ix_listK K) (pv 1) pe_int (fun _ _ => rfl)) pa_nil))) (pa_cons (pe_tup (pa_cons (pe_ix (QB.ix_listK K) (pv 1) pe_int (fun _ _ => rfl)) (pa_cons (pv 2) pa_nil))) (pa_cons (pe_tup (pa_cons (pe_ix (QB.ix_listK K) (pv 1) pe_int (fun _ _ => rfl)) pa_nil)) (pa_cons (pe_lst (pa_cons (pe_ix (QB.ix_listK K) (pv 1) pe_int (fun _ _ => rfl)) (pa_cons (pe_ix (QB.ix_listK K) (pv 1) pe_int (fun _ _ => rfl)) pa_nil))) (pa_cons (pe_op (QV.op_repTK K) (pe_tup (pa_cons (pe_ix (QB.ix_listK K) (pv 1) pe_int (fun _ _ => rfl)) pa_nil)) pe_int) (pa_cons (pv 2) (pa_cons (pe_tup (pa_cons (pe_ix (QB.ix_listK K) (pv 1) (pe_un un_neg pe_int) (fun _ _ => rfl)) (pa_cons (pe_ix (QB.ix_listK K) (pv 1) pe_int (fun _ _ => rfl)) pa_nil))) pa_nil))))))))) (pss_cons (ps_set (i := 6) nd rfl (Or.inl rfl) (pe_ix (QB.ix_listK K) (pv 6) (pe_call (ok__law_take X) (hr.mono (by decide)) rfl X.d__law_take.mg X.d__law_take.F.kp X.d__law_take.b .nil pass0 (pa_cons (pv 0) (pa_cons pe_int pa_nil))) (fun _ _ => rfl))) (pss_cons (ps_set (i := 7) nd rfl (Or.inl rfl) (pe_lst (pa_cons (pe_ix (QB.ix_listK K) (pv 1) pe_int (fun _ _ => rfl)) (pa_cons (pv 2) (pa_cons (pv 3) (pa_cons (pe_op op_cat (pe_op op_cat (pe_slice (QB.sl_listK K) (pv 3) po_none (po_some (pv 4))) (pe_lst (pa_cons (pv 2) pa_nil))) (pe_slice (QB.sl_listK K) (pv 3) (po_some (pv 4)) po_none)) (pa_cons (pv 1) (pa_cons (pe_op op_cat (QN.pe_turn K (pv 1)) (pe_slice (QB.sl_listK K) (pv 1) po_none (po_some pe_int))) (pa_cons (pe_op op_rep (pv 3) pe_int) (pa_cons (pv 5) pa_nil)))))))))) (pss_cons (ps_set (i := 7) nd rfl (Or.inl rfl) (pe_op op_cat (pv 7) (pe_lst (pa_cons (pe_op op_cat (pv 5) (pe_lst (pa_cons (pv 6) pa_nil))) (pa_cons (pe_op op_cat (pe_lst (pa_cons (pv 6) pa_nil)) (pv 5)) (pa_cons (pe_callTy (QB.call_tupleK K) (by rfl) X.n_tuple QB.bo_tuple (pa_cons (pv 5) pa_nil)) (pa_cons (pe_callTy (QB.call_tupleK K) (by rfl) X.n_tuple QB.bo_tuple (pa_cons (pv 1) pa_nil)) (pa_cons (pe_lst pa_nil) (pa_cons pe_non (pa_cons (pe_lst (pa_cons (pv 2) (pa_cons (pv 2) pa_nil))) (pa_cons (pe_ix (QB.ix_listK K) (pv 1) (pe_un un_neg pe_int) (fun _ _ => rfl)) pa_nil))))))))))) (pss_cons (ps_set (i := 7) nd rfl (Or.inl rfl) (pe_op op_cat (pv 7) (pe_lst (pa_cons (pe_op op_cat (pe_op op_cat (pv 5) (pe_slice (QB.sl_listK K) (pv 5) po_none (po_some pe_int))) (pe_lst (pa_cons (pv 6) pa_nil))) (pa_cons (pe_op op_cat (pe_lst (pa_cons (pv 2) pa_nil)) (pe_op op_rep (pe_slice (QB.sl_listK K) (pv 1) po_none (po_some pe_int)) pe_int)) (pa_cons (pe_op op_rep (pe_slice (QB.sl_listK K) (pv 1) po_none (po_some pe_int)) pe_int) pa_nil)))))) (pss_cons (ps_set (i := 8) nd rfl (Or.inl rfl) (pe_ix (QB.ix_listK K) (pv 7) (pe_call (ok__law_take X) (hr.mono (by decide)) rfl X.d__law_take.mg X.d__law_take.F.kp X.d__law_take.b .nil pass0 (pa_cons (pv 0) (pa_cons pe_int pa_nil))) (fun _ _ => rfl))) (pss_cons (ps_set (i := 9) nd rfl (Or.inl rfl) (pe_ix (QB.ix_listK K) (pe_lst (pa_cons pe_int (pa_cons pe_int (pa_cons pe_int (pa_cons (pe_op op_sub pe_int pe_int) (pa_cons pe_non (pa_cons pe_bl (pa_cons pe_str (pa_cons (pe_lst (pa_cons pe_int pa_nil)) (pa_cons (pe_op op_pow pe_int pe_int) (pa_cons pe_bl (pa_cons pe_int (pa_cons pe_int pa_nil))))))))))))) (pe_call (ok__law_take X) (hr.mono (by decide)) rfl X.d__law_take.mg X.d__law_take.F.kp X.d__law_take.b .nil pass0 (pa_cons (pv 0) (pa_cons pe_int pa_nil))) (fun _ _ => rfl))) (pss_cons (ps_set (i := 10) nd rfl (Or.inl rfl) (pe_lst (pa_cons (pv 1) (pa_cons (pv 1) (pa_cons (pv 1) (pa_cons (pv 1) (pa_cons (pe_callTy (QB.call_tupleK K) (by rfl) X.n_tuple QB.bo_tuple (pa_cons (pv 1) pa_nil)) (pa_cons (pe_lst pa_nil) (pa_cons (pe_op op_cat (pv 1) (pe_lst (pa_cons (pv 2) pa_nil))) (pa_cons (pe_op op_cat (pv 1) (pe_slice (QB.sl_listK K) (pv 1) po_none (po_some pe_int))) (pa_cons pe_non (pa_cons (pe_callTy (QV.call_listS (by rfl)) (by rfl) X.n_list QB.bo_list (pa_cons pe_str pa_nil)) pa_nil)))))))))))) (pss_one (ps_ret (pe_tup (pa_cons (pe_ix (QB.ix_listK K) (pv 10) (pe_call (ok__law_take X) (hr.mono (by decide)) rfl X.d__law_take.mg X.d__law_take.F.kp X.d__law_take.b .nil pass0 (pa_cons (pv 0) (pa_cons pe_int pa_nil))) (fun _ _ => rfl)) (pa_cons (pv 8) (pa_cons (pv 9) pa_nil)))))))))))))))))), ?_⟩
    try dsimp only [Cx.nox, Cx.wish, cxOf]
    have htl := to.len
    have htp := to.pos
    obtain ⟨G0, hG0⟩ : ∃ G, G = H := ⟨_, rfl⟩
    have E0 : Exc [p] H G0 := hG0 ▸ .refl
    rw [← hG0] at P0 ha ⊢
    clear hG0
    have T0 : ∀ b ∈ [p], G0 b ≠ none := fun b hb e => by
      obtain ⟨_, _, _, hp⟩ := P0
      rw [List.mem_singleton.mp hb, hp] at e
      cases e
    obtain ⟨M, hM⟩ : ∃ M, M = [p] := ⟨_, rfl⟩
    have pM : p ∈ M := by rw [hM]; exact List.mem_cons_self
    have toM : ∀ {q : Addr}, q ≠ p → q ∉ M := fun h z => h (by rw [hM] at z; exact List.mem_singleton.mp z)
    have tg : hide M G0 a = some (.lst (vS tags)) := hide_at (toM (P0.word ha)) ha
    rw [← hM] at T0
    have e0 : tags[0]? = some (tags[0]'(by omega)) := List.getElem?_eq_getElem (by omega)
    have m0 : tags[0]'(by omega) ∈ tags := List.getElem_mem _
    generalize tags[0]'(by omega) = t0 at e0 m0
    have el : tags.getLast? = some (tags.getLast (fun z => by rw [z] at htp; exact absurd htp (by decide))) := List.getLast?_eq_some_getLast _
    have ml := List.getLast_mem (fun z : tags = [] => by rw [z] at htp; exact absurd htp (by decide))
    generalize tags.getLast _ = tl at el ml
    have el2 : (vS tags).getLast? = some (V.str tl) := by
      unfold vS
      rw [List.getLast?_map, el]
      rfl
    have nm0 := to.names _ m0
    have nml := to.names _ ml
    have tk1 : (vS tags).take 1 = [V.str t0] := by
      cases tags with
      | nil => cases e0
      | cons u us =>
        cases e0
        rfl
    have tw1 : tags.take 1 = [t0] := by
      cases tags with
      | nil => cases e0
      | cons u us =>
        cases e0
        rfl
    have smt : Sm 9 1 (.str (t0 ++ Str.ofString "q")) := sm_str (strOk_app nm0.txt (by decide +kernel)) (by have := nm0.len; rw [show (t0 ++ Str.ofString "q").length = t0.length + 1 from by show (t0.cps ++ _).size = _; rw [Array.size_append]; rfl]; omega)
    refine ⟨_, rfl, a, _, _, _, rfl, rfl, SqL.of (hide_dv _ _ tg), atI_nat (j := 0) (vS_get e0), _, _, rfl, rfl, by have := nm0.len; show t0.length + 1 ≤ sizeLine; exact sz_le (by omega), _, rfl, a, _, _, _, rfl, rfl, SqL.of (hide_dv _ _ tg), atI_nat (j := 0) (vS_get e0), by show 1 ≤ sizeLine; decide, fun q1 hq1 => ?_⟩
    have n1 : q1 ∉ M := fun z => T0 _ z hq1
    have y1 := hide_same (M := M) (same_new (o := .lst [V.str t0]) hq1)
    have tg := y1 _ _ tg
    have o1 : hide M (upd G0 q1 (.lst [V.str t0])) q1 = some (.lst [V.str t0]) := hide_at n1 upd_same
    have P1 := P0.same (same_new (o := .lst [V.str t0]) hq1)
    have T1 := tr_same T0 (same_new (o := .lst [V.str t0]) hq1)
    have E1 := E0.trans (.of (same_new (o := .lst [V.str t0]) hq1))
    generalize upd G0 q1 (.lst [V.str t0]) = G1 at y1 P1 T1 E1 tg o1 ⊢
    clear y1 hq1 P0 E0 T0
    refine ⟨_, rfl, a, _, _, _, rfl, rfl, SqL.of (hide_dv _ _ tg), atI_nat (j := 0) (vS_get e0), by show 1 ≤ sizeLine; decide, fun q2 hq2 => ?_⟩
    have n2 : q2 ∉ M := fun z => T1 _ z hq2
    have y2 := hide_same (M := M) (same_new (o := .tup [V.str t0]) hq2)
    have tg := y2 _ _ tg
    have o1 := y2 _ _ o1
    have o2 : hide M (upd G1 q2 (.tup [V.str t0])) q2 = some (.tup [V.str t0]) := hide_at n2 upd_same
    have P2 := P1.same (same_new (o := .tup [V.str t0]) hq2)
    have T2 := tr_same T1 (same_new (o := .tup [V.str t0]) hq2)
    have E2 := E1.trans (.of (same_new (o := .tup [V.str t0]) hq2))
    generalize upd G1 q2 (.tup [V.str t0]) = G2 at y2 P2 T2 E2 tg o1 o2 ⊢
    clear y2 hq2 P1 E1 T1
    refine fun q3 hq3 => ?_
    have n3 : q3 ∉ M := fun z => T2 _ z hq3
    have y3 := hide_same (M := M) (same_new (o := .dK []) hq3)
    have tg := y3 _ _ tg
    have o1 := y3 _ _ o1
    have o2 := y3 _ _ o2
    have o3 : hide M (upd G2 q3 (.dK [])) q3 = some (.dK []) := hide_at n3 upd_same
    have P3 := P2.same (same_new (o := .dK []) hq3)
    have T3 := tr_same T2 (same_new (o := .dK []) hq3)
    have E3 := E2.trans (.of (same_new (o := .dK []) hq3))
    generalize upd G2 q3 (.dK []) = G3 at y3 P3 T3 E3 tg o1 o2 o3 ⊢
    clear y3 hq3 P2 E2 T2
    refine ⟨by show 9 ≤ sizeLine; decide, fun q4 hq4 => ?_⟩
    have n4 : q4 ∉ M := fun z => T3 _ z hq4
    have y4 := hide_same (M := M) (same_new (o := .lst [V.non, .str "", .str (t0 ++ Str.ofString "q"), .int 0, .bl true, .ref q1, .ref q2, .str "A", .ref q3]) hq4)
    have tg := y4 _ _ tg
    have o1 := y4 _ _ o1
    have o2 := y4 _ _ o2
    have o3 := y4 _ _ o3
    have od : hide M (upd G3 q4 (.lst [V.non, .str "", .str (t0 ++ Str.ofString "q"), .int 0, .bl true, .ref q1, .ref q2, .str "A", .ref q3])) q4 = some (.lst [V.non, .str "", .str (t0 ++ Str.ofString "q"), .int 0, .bl true, .ref q1, .ref q2, .str "A", .ref q3]) := hide_at n4 upd_same
    have P4 := P3.same (same_new (o := .lst [V.non, .str "", .str (t0 ++ Str.ofString "q"), .int 0, .bl true, .ref q1, .ref q2, .str "A", .ref q3]) hq4)
    have T4 := tr_same T3 (same_new (o := .lst [V.non, .str "", .str (t0 ++ Str.ofString "q"), .int 0, .bl true, .ref q1, .ref q2, .str "A", .ref q3]) hq4)
    have E4 := E3.trans (.of (same_new (o := .lst [V.non, .str "", .str (t0 ++ Str.ofString "q"), .int 0, .bl true, .ref q1, .ref q2, .str "A", .ref q3]) hq4))
    generalize upd G3 q4 (.lst [V.non, .str "", .str (t0 ++ Str.ofString "q"), .int 0, .bl true, .ref q1, .ref q2, .str "A", .ref q3]) = G4 at y4 P4 T4 E4 tg o1 o2 o3 od ⊢
    clear y4 hq4 P3 E3 T3
    refine ⟨_, rfl, p, 9, rfl, by decide, by decide, P4, fun r1 G5 hr1 x5 P5 => ?_⟩
    have y5 := hide_exc pM x5
    have tg := y5 _ _ tg
    have o1 := y5 _ _ o1
    have o2 := y5 _ _ o2
    have o3 := y5 _ _ o3
    have od := y5 _ _ od
    have E5 := E4.trans x5
    have T5 := tr_exc T4 x5 P5
    clear y5 x5 P4 E4 T4
    have allo : ∀ v ∈ [V.non, .str "", .str (t0 ++ Str.ofString "q"), .int 0, .bl true, .ref q1, .ref q2, .str "A", .ref q3], ∃ d, Dv (hide M G5) v d ∧ Sm 20 1 d :=
      any_cons .non ((sm_non (k := 0)).mono (by omega) (by omega))
      (any_cons (.str _) (sm_str (by decide +kernel) (by decide +kernel))
      (any_cons (.str _) (smt.mono (by omega) (by omega))
      (any_cons (.int 0) ((sm_nat (k := 0) (i := 0) (by omega)).mono (by omega) (by omega))
      (any_cons (.bl true) ((sm_bl (k := 0) true).mono (by omega) (by omega))
      (any_cons (.lst o1 (.cons (.str _) .nil)) ((SmL.cons (k := 0) (name_sm nm0) .nil).list.mono (by omega) (by omega))
      (any_cons (.tup o2 (.cons (.str _) .nil)) ((SmL.cons (k := 0) (name_sm nm0) .nil).tuple.mono (by omega) (by omega))
      (any_cons (.str _) (sm_str (by decide +kernel) (by decide +kernel))
      (any_cons (.dct o3) (sm_dct (k := 0).mono (by omega) (by omega)) any_nil))))))))
    obtain ⟨ov, hov, odd, O, smO⟩ := pick (r := r1) (by exact hr1) allo
    clear allo
    refine ⟨q4, _, _, ov, rfl, rfl, SqL.of (hide_dv _ _ od), atI_nat hov, ?_⟩
    clear o1 o2 o3 od
    refine ⟨_, rfl, p, 4, rfl, by decide, by decide, P5, fun r2 G6 hr2 x6 P6 => ?_⟩
    have y6 := hide_exc pM x6
    have tg := y6 _ _ tg
    have O := O.same y6
    have E6 := E5.trans x6
    have T6 := tr_exc T5 x6 P6
    clear y6 x6 P5 E5 T5
    refine ⟨_, rfl, by omega, by omega, fun sm hsm => ?_⟩
    have smp : p ≠ sm := P6.ne hsm
    have ap : a ≠ p := fun z => (hide_get tg).1 (z ▸ pM)
    have ha6 : WordAt G6 a tags := hide_dv _ _ tg
    refine lc_it (walk_range (lo := 0) (n := r2)) (fun i H' => Exc [p] G6 H' ∧ PileAt H' p ∧ ∃ ys : Word, ys.length = i ∧ WordAt H' sm ys ∧ ∀ t ∈ ys, t ∈ tags)
      ⟨Exc.refl.mut (.inr hsm), P6.upd smp, [], rfl, upd_same, fun _ h => nomatch h⟩ (fun _ _ _ _ => True.intro) ?_ ?_
    · rintro j x H5 H6 hj ⟨x5, p5, ys, hl, hWl, hy⟩ ⟨rfl, rfl⟩
      refine ⟨rfl, _, rfl, _, rfl, ?_⟩
      have ha5 := wordExc x5 ap ha6
      refine ⟨_, rfl, _, _, rfl, .inl (SqL.of ha5), ?_⟩
      refine ⟨p, tags.length, by rw [vS_len]; rfl, by omega, by omega, p5, fun r3 H7 hr3 x7 p7 => ?_⟩
      have e3 : tags[r3]? = some (tags[r3]'hr3) := List.getElem?_eq_getElem hr3
      refine ⟨a, _, _, _, rfl, rfl, SqL.of (wordExc x7 ap ha5), atI_nat (vS_get e3), ?_⟩
      have hW7 := wordExc x7 smp.symm hWl
      refine ⟨_, hW7, by rw [vS_len]; exact sz_lt (by omega), (x5.trans x7).mut (.inr hsm), p7.upd smp, ys ++ [tags[r3]'hr3], by rw [List.length_append, hl]; rfl, ?_, ?_⟩
      · unfold WordAt
        rw [upd_same, ← vS_append]
        rfl
      · intro t ht
        rcases List.mem_append.mp ht with h | h
        · exact hy t h
        · rw [List.mem_singleton.mp h]
          exact List.getElem_mem hr3
    rintro G7 ⟨x7, P7, ys, hyl, kS, hys⟩
    have y7 := hide_exc pM x7
    have tg := y7 _ _ tg
    have O := O.same y7
    have kS : hide M G7 sm = some (.lst (vS ys)) := hide_at (toM smp.symm) kS
    have E7 := E6.trans x7
    have T7 := tr_exc T6 x7 P7
    clear y7 x7 P6 E6 T6 ha6 hsm
    refine ⟨_, rfl, _, rfl, _, _, rfl, .inl (SqL.of (hide_dv _ _ kS)), _, _, rfl, rfl, ?_⟩
    refine ⟨p, ys.length + 1, by rw [vS_len]; rfl, by omega, by omega, P7, fun r4 G8 hr4 x8 P8 => ?_⟩
    have y8 := hide_exc pM x8
    have tg := y8 _ _ tg
    have O := O.same y8
    have kS := y8 _ _ kS
    have E8 := E7.trans x8
    have T8 := tr_exc T7 x8 P8
    clear y8 x8 P7 E7 T7
    refine ⟨_, rfl, _, rfl, ⟨_, SqL.of (hide_dv _ _ tg)⟩, fun pr hpr => ?_⟩
    have prM : pr ∉ M := fun z => T8 _ z hpr
    have tgn := (hide_dv _ _ tg)
    refine lc_pairs (walk_list (K := K) (a := a) (xs := vS tags)) hpr (by rw [vS_len]; omega) (fun H' s' => SqL.of (s' _ _ tgn)) t0 (fun i => (tags[i]?).getD t0) ?_ ?_
    · rintro i x H5 H6 kk hi s5 ⟨rfl, hx⟩ hk
      rw [vS_len] at hi
      have e3 : tags[i]? = some (tags[i]'hi) := List.getElem?_eq_getElem hi
      obtain rfl : x = V.str (tags[i]'hi) := by
        rw [vS_get e3] at hx
        exact (Option.some.inj hx).symm
      refine ⟨rfl, _, rfl, _, rfl, a, _, _, _, rfl, rfl, SqL.of (s5 _ _ tgn), atI_nat (j := 0) (vS_get e0), by show 2 ≤ sizeLine; decide, fun q1 hq1 => ?_⟩
      refine hk q1 _ (same_new hq1) hq1 ?_
      show upd _ q1 _ q1 = _
      rw [upd_same, e3]
      rfl
    rintro G9 ts x9 kP PP
    have y9 := hide_same (M := M) x9
    have tg := y9 _ _ tg
    have O := O.same y9
    have kS := y9 _ _ kS
    rw [vS_len, show (List.range tags.length).map (fun i => (tags[i]?).getD t0) = tags from by
      refine List.ext_getElem? fun i => ?_
      rw [List.getElem?_map]
      by_cases hi : i < tags.length
      · rw [List.getElem?_range hi]
        show some ((tags[i]?).getD t0) = _
        rw [List.getElem?_eq_getElem hi]
        rfl
      · rw [List.getElem?_eq_none (by rw [List.length_range]; omega), List.getElem?_eq_none (by omega)]
        rfl] at PP
    have PD : DvAll (hide M G9) (ts.map V.ref) (tags.map (prD t0)) := prs_dv (L2.Paired.mapP PP fun q wd z => hide_at (fun y => T8 _ y z.1) z.2)
    have htsl : ts.length = tags.length := Paired.length PP
    have kP : hide M G9 pr = some (.lst (ts.map V.ref)) := hide_at prM kP
    have P9 := P8.same x9
    have E9 := E8.trans (.of x9)
    have T9 := tr_same T8 x9
    clear PP y9 x9 P8 E8 T8 hpr tgn
    refine ⟨_, rfl, _, rfl, a, _, _, _, rfl, rfl, SqL.of (hide_dv _ _ tg), atI_nat (j := 0) (vS_get e0), by show 2 ≤ sizeLine; decide, fun q10 hq10 => ?_⟩
    have n10 : q10 ∉ M := fun z => T9 _ z hq10
    have y10 := hide_same (M := M) (same_new (o := .tup [ov, V.str t0]) hq10)
    have tg := y10 _ _ tg
    have O := O.same y10
    have kS := y10 _ _ kS
    have kP := y10 _ _ kP
    have PD := PD.same y10
    have b1 : hide M (upd G9 q10 (.tup [ov, V.str t0])) q10 = some (.tup [ov, V.str t0]) := hide_at n10 upd_same
    have P10 := P9.same (same_new (o := .tup [ov, V.str t0]) hq10)
    have T10 := tr_same T9 (same_new (o := .tup [ov, V.str t0]) hq10)
    have E10 := E9.trans (.of (same_new (o := .tup [ov, V.str t0]) hq10))
    generalize upd G9 q10 (.tup [ov, V.str t0]) = G10 at y10 P10 T10 E10 tg O kS kP PD b1 ⊢
    clear y10 hq10 P9 E9 T9
    refine ⟨_, rfl, a, _, _, _, rfl, rfl, SqL.of (hide_dv _ _ tg), atI_nat (j := 0) (vS_get e0), _, rfl, by show 2 ≤ sizeLine; decide, fun q11 hq11 => ?_⟩
    have n11 : q11 ∉ M := fun z => T10 _ z hq11
    have y11 := hide_same (M := M) (same_new (o := .tup [V.str t0, ov]) hq11)
    have tg := y11 _ _ tg
    have O := O.same y11
    have kS := y11 _ _ kS
    have kP := y11 _ _ kP
    have PD := PD.same y11
    have b1 := y11 _ _ b1
    have b2 : hide M (upd G10 q11 (.tup [V.str t0, ov])) q11 = some (.tup [V.str t0, ov]) := hide_at n11 upd_same
    have P11 := P10.same (same_new (o := .tup [V.str t0, ov]) hq11)
    have T11 := tr_same T10 (same_new (o := .tup [V.str t0, ov]) hq11)
    have E11 := E10.trans (.of (same_new (o := .tup [V.str t0, ov]) hq11))
    generalize upd G10 q11 (.tup [V.str t0, ov]) = G11 at y11 P11 T11 E11 tg O kS kP PD b1 b2 ⊢
    clear y11 hq11 P10 E10 T10
    refine ⟨_, rfl, a, _, _, _, rfl, rfl, SqL.of (hide_dv _ _ tg), atI_nat (j := 0) (vS_get e0), by show 1 ≤ sizeLine; decide, fun q12 hq12 => ?_⟩
    have n12 : q12 ∉ M := fun z => T11 _ z hq12
    have y12 := hide_same (M := M) (same_new (o := .tup [V.str t0]) hq12)
    have tg := y12 _ _ tg
    have O := O.same y12
    have kS := y12 _ _ kS
    have kP := y12 _ _ kP
    have PD := PD.same y12
    have b1 := y12 _ _ b1
    have b2 := y12 _ _ b2
    have b3 : hide M (upd G11 q12 (.tup [V.str t0])) q12 = some (.tup [V.str t0]) := hide_at n12 upd_same
    have P12 := P11.same (same_new (o := .tup [V.str t0]) hq12)
    have T12 := tr_same T11 (same_new (o := .tup [V.str t0]) hq12)
    have E12 := E11.trans (.of (same_new (o := .tup [V.str t0]) hq12))
    generalize upd G11 q12 (.tup [V.str t0]) = G12 at y12 P12 T12 E12 tg O kS kP PD b1 b2 b3 ⊢
    clear y12 hq12 P11 E11 T11
    refine ⟨_, rfl, a, _, _, _, rfl, rfl, SqL.of (hide_dv _ _ tg), atI_nat (j := 0) (vS_get e0), _, rfl, a, _, _, _, rfl, rfl, SqL.of (hide_dv _ _ tg), atI_nat (j := 0) (vS_get e0), by show 2 ≤ sizeLine; decide, fun q13 hq13 => ?_⟩
    have n13 : q13 ∉ M := fun z => T12 _ z hq13
    have y13 := hide_same (M := M) (same_new (o := .lst [V.str t0, V.str t0]) hq13)
    have tg := y13 _ _ tg
    have O := O.same y13
    have kS := y13 _ _ kS
    have kP := y13 _ _ kP
    have PD := PD.same y13
    have b1 := y13 _ _ b1
    have b2 := y13 _ _ b2
    have b3 := y13 _ _ b3
    have b4 : hide M (upd G12 q13 (.lst [V.str t0, V.str t0])) q13 = some (.lst [V.str t0, V.str t0]) := hide_at n13 upd_same
    have P13 := P12.same (same_new (o := .lst [V.str t0, V.str t0]) hq13)
    have T13 := tr_same T12 (same_new (o := .lst [V.str t0, V.str t0]) hq13)
    have E13 := E12.trans (.of (same_new (o := .lst [V.str t0, V.str t0]) hq13))
    generalize upd G12 q13 (.lst [V.str t0, V.str t0]) = G13 at y13 P13 T13 E13 tg O kS kP PD b1 b2 b3 b4 ⊢
    clear y13 hq13 P12 E12 T12
    refine ⟨_, rfl, a, _, _, _, rfl, rfl, SqL.of (hide_dv _ _ tg), atI_nat (j := 0) (vS_get e0), by show 1 ≤ sizeLine; decide, fun q14 hq14 => ?_⟩
    have n14 : q14 ∉ M := fun z => T13 _ z hq14
    have y14 := hide_same (M := M) (same_new (o := .tup [V.str t0]) hq14)
    have tg := y14 _ _ tg
    have O := O.same y14
    have kS := y14 _ _ kS
    have kP := y14 _ _ kP
    have PD := PD.same y14
    have b1 := y14 _ _ b1
    have b2 := y14 _ _ b2
    have b3 := y14 _ _ b3
    have b4 := y14 _ _ b4
    have b5 : hide M (upd G13 q14 (.tup [V.str t0])) q14 = some (.tup [V.str t0]) := hide_at n14 upd_same
    have P14 := P13.same (same_new (o := .tup [V.str t0]) hq14)
    have T14 := tr_same T13 (same_new (o := .tup [V.str t0]) hq14)
    have E14 := E13.trans (.of (same_new (o := .tup [V.str t0]) hq14))
    generalize upd G13 q14 (.tup [V.str t0]) = G14 at y14 P14 T14 E14 tg O kS kP PD b1 b2 b3 b4 b5 ⊢
    clear y14 hq14 P13 E13 T13
    refine ⟨q14, (3 : Int), _, rfl, rfl, SqT.of (hide_dv _ _ b5), by simp, by decide, by decide, by show 1 ≤ 1000; decide, fun q15 hq15 => ?_⟩
    have n15 : q15 ∉ M := fun z => T14 _ z hq15
    have y15 := hide_same (M := M) (same_new (o := .tup (List.replicate (3 : Int).toNat [V.str t0]).flatten) hq15)
    have tg := y15 _ _ tg
    have O := O.same y15
    have kS := y15 _ _ kS
    have kP := y15 _ _ kP
    have PD := PD.same y15
    have b1 := y15 _ _ b1
    have b2 := y15 _ _ b2
    have b3 := y15 _ _ b3
    have b4 := y15 _ _ b4
    have b5 := y15 _ _ b5
    have b6 : hide M (upd G14 q15 (.tup (List.replicate (3 : Int).toNat [V.str t0]).flatten)) q15 = some (.tup (List.replicate (3 : Int).toNat [V.str t0]).flatten) := hide_at n15 upd_same
    have P15 := P14.same (same_new (o := .tup (List.replicate (3 : Int).toNat [V.str t0]).flatten) hq15)
    have T15 := tr_same T14 (same_new (o := .tup (List.replicate (3 : Int).toNat [V.str t0]).flatten) hq15)
    have E15 := E14.trans (.of (same_new (o := .tup (List.replicate (3 : Int).toNat [V.str t0]).flatten) hq15))
    generalize upd G14 q15 (.tup (List.replicate (3 : Int).toNat [V.str t0]).flatten) = G15 at y15 P15 T15 E15 tg O kS kP PD b1 b2 b3 b4 b5 b6 ⊢
    clear y15 hq15 P14 E14 T14
    refine ⟨_, rfl, _, rfl, _, rfl, a, _, _, _, rfl, rfl, SqL.of (hide_dv _ _ tg), atI_last' el2, _, rfl, a, _, _, _, rfl, rfl, SqL.of (hide_dv _ _ tg), atI_nat (j := 0) (vS_get e0), by show 2 ≤ sizeLine; decide, fun q16 hq16 => ?_⟩
    have n16 : q16 ∉ M := fun z => T15 _ z hq16
    have y16 := hide_same (M := M) (same_new (o := .tup [V.str tl, V.str t0]) hq16)
    have tg := y16 _ _ tg
    have O := O.same y16
    have kS := y16 _ _ kS
    have kP := y16 _ _ kP
    have PD := PD.same y16
    have b1 := y16 _ _ b1
    have b2 := y16 _ _ b2
    have b3 := y16 _ _ b3
    have b4 := y16 _ _ b4
    have b5 := y16 _ _ b5
    have b6 := y16 _ _ b6
    have b7 : hide M (upd G15 q16 (.tup [V.str tl, V.str t0])) q16 = some (.tup [V.str tl, V.str t0]) := hide_at n16 upd_same
    have P16 := P15.same (same_new (o := .tup [V.str tl, V.str t0]) hq16)
    have T16 := tr_same T15 (same_new (o := .tup [V.str tl, V.str t0]) hq16)
    have E16 := E15.trans (.of (same_new (o := .tup [V.str tl, V.str t0]) hq16))
    generalize upd G15 q16 (.tup [V.str tl, V.str t0]) = G16 at y16 P16 T16 E16 tg O kS kP PD b1 b2 b3 b4 b5 b6 b7 ⊢
    clear y16 hq16 P15 E15 T15
    refine ⟨by show 7 ≤ sizeLine; decide, fun q17 hq17 => ?_⟩
    have n17 : q17 ∉ M := fun z => T16 _ z hq17
    have y17 := hide_same (M := M) (same_new (o := .lst [V.ref q10, .ref q11, .ref q12, .ref q13, .ref q15, ov, .ref q16]) hq17)
    have tg := y17 _ _ tg
    have O := O.same y17
    have kS := y17 _ _ kS
    have kP := y17 _ _ kP
    have PD := PD.same y17
    have b1 := y17 _ _ b1
    have b2 := y17 _ _ b2
    have b3 := y17 _ _ b3
    have b4 := y17 _ _ b4
    have b5 := y17 _ _ b5
    have b6 := y17 _ _ b6
    have b7 := y17 _ _ b7
    have bl : hide M (upd G16 q17 (.lst [V.ref q10, .ref q11, .ref q12, .ref q13, .ref q15, ov, .ref q16])) q17 = some (.lst [V.ref q10, .ref q11, .ref q12, .ref q13, .ref q15, ov, .ref q16]) := hide_at n17 upd_same
    have P17 := P16.same (same_new (o := .lst [V.ref q10, .ref q11, .ref q12, .ref q13, .ref q15, ov, .ref q16]) hq17)
    have T17 := tr_same T16 (same_new (o := .lst [V.ref q10, .ref q11, .ref q12, .ref q13, .ref q15, ov, .ref q16]) hq17)
    have E17 := E16.trans (.of (same_new (o := .lst [V.ref q10, .ref q11, .ref q12, .ref q13, .ref q15, ov, .ref q16]) hq17))
    generalize upd G16 q17 (.lst [V.ref q10, .ref q11, .ref q12, .ref q13, .ref q15, ov, .ref q16]) = G17 at y17 P17 T17 E17 tg O kS kP PD b1 b2 b3 b4 b5 b6 b7 bl ⊢
    clear y17 hq17 P16 E16 T16
    refine ⟨_, rfl, _, rfl, p, 7, rfl, by decide, by decide, P17, fun r5 G18 hr5 x18 P18 => ?_⟩
    have y18 := hide_exc pM x18
    have tg := y18 _ _ tg
    have O := O.same y18
    have kS := y18 _ _ kS
    have kP := y18 _ _ kP
    have PD := PD.same y18
    have b1 := y18 _ _ b1
    have b2 := y18 _ _ b2
    have b3 := y18 _ _ b3
    have b4 := y18 _ _ b4
    have b5 := y18 _ _ b5
    have b6 := y18 _ _ b6
    have b7 := y18 _ _ b7
    have bl := y18 _ _ bl
    have E18 := E17.trans x18
    have T18 := tr_exc T17 x18 P18
    clear y18 x18 P17 E17 T17
    have allb : ∀ v ∈ [V.ref q10, .ref q11, .ref q12, .ref q13, .ref q15, ov, .ref q16], ∃ d, Dv (hide M G18) v d ∧ Sm 60 2 d :=
      any_cons (.tup b1 (.cons O (.cons (.str _) .nil))) ((SmL.cons smO (SmL.cons (name_sm (k := 1) nm0) .nil)).tuple.mono (by omega) (by omega))
      (any_cons (.tup b2 (.cons (.str _) (.cons O .nil))) ((SmL.cons (name_sm (k := 1) nm0) (SmL.cons smO .nil)).tuple.mono (by omega) (by omega))
      (any_cons (.tup b3 (.cons (.str _) .nil)) ((SmL.cons (name_sm (k := 1) nm0) .nil).tuple.mono (by omega) (by omega))
      (any_cons (.lst b4 (.cons (.str _) (.cons (.str _) .nil))) ((SmL.cons (name_sm (k := 1) nm0) (SmL.cons (name_sm (k := 1) nm0) .nil)).list.mono (by omega) (by omega))
      (any_cons (.tup b6 (by rw [flat_one]; exact DvAll.rep (.str t0) _)) ((sm_rep (name_sm (k := 1) nm0) (3 : Int).toNat).tuple.mono (by decide) (by omega))
      (any_cons O (smO.mono (by omega) (by omega))
      (any_cons (.tup b7 (.cons (.str _) (.cons (.str _) .nil))) ((SmL.cons (name_sm (k := 1) nml) (SmL.cons (name_sm (k := 1) nm0) .nil)).tuple.mono (by omega) (by omega)) any_nil))))))
    obtain ⟨bv, hbv, bd, B, smB⟩ := pick (r := r5) (by exact hr5) allb
    clear allb
    refine ⟨q17, _, _, bv, rfl, rfl, SqL.of (hide_dv _ _ bl), atI_nat hbv, ?_⟩
    clear b1 b2 b3 b4 b5 b6 b7 bl
    refine ⟨_, rfl, a, _, _, _, rfl, rfl, SqL.of (hide_dv _ _ tg), atI_nat (j := 0) (vS_get e0), _, rfl, _, rfl, _, rfl, _, rfl, _, rfl, sm, _, rfl, SqL.of (hide_dv _ _ kS), fun q19 hq19 => ?_⟩
    rw [cut_take]
    have n19 : q19 ∉ M := fun z => T18 _ z hq19
    have y19 := hide_same (M := M) (same_new (o := .lst ((vS ys).take r4)) hq19)
    have tg := y19 _ _ tg
    have O := O.same y19
    have kS := y19 _ _ kS
    have kP := y19 _ _ kP
    have PD := PD.same y19
    have B := B.same y19
    have c1 : hide M (upd G18 q19 (.lst ((vS ys).take r4))) q19 = some (.lst ((vS ys).take r4)) := hide_at n19 upd_same
    have P19 := P18.same (same_new (o := .lst ((vS ys).take r4)) hq19)
    have T19 := tr_same T18 (same_new (o := .lst ((vS ys).take r4)) hq19)
    have E19 := E18.trans (.of (same_new (o := .lst ((vS ys).take r4)) hq19))
    generalize upd G18 q19 (.lst ((vS ys).take r4)) = G19 at y19 P19 T19 E19 tg O kS kP PD B c1 ⊢
    clear y19 hq19 P18 E18 T18
    refine ⟨_, rfl, by show 1 ≤ sizeLine; decide, fun q20 hq20 => ?_⟩
    have n20 : q20 ∉ M := fun z => T19 _ z hq20
    have y20 := hide_same (M := M) (same_new (o := .lst [ov]) hq20)
    have tg := y20 _ _ tg
    have O := O.same y20
    have kS := y20 _ _ kS
    have kP := y20 _ _ kP
    have PD := PD.same y20
    have B := B.same y20
    have c1 := y20 _ _ c1
    have c2 : hide M (upd G19 q20 (.lst [ov])) q20 = some (.lst [ov]) := hide_at n20 upd_same
    have P20 := P19.same (same_new (o := .lst [ov]) hq20)
    have T20 := tr_same T19 (same_new (o := .lst [ov]) hq20)
    have E20 := E19.trans (.of (same_new (o := .lst [ov]) hq20))
    generalize upd G19 q20 (.lst [ov]) = G20 at y20 P20 T20 E20 tg O kS kP PD B c1 c2 ⊢
    clear y20 hq20 P19 E19 T19
    refine ⟨_, _, _, _, rfl, rfl, (hide_dv _ _ c1), (hide_dv _ _ c2), by simp only [List.length_append, List.length_take, List.length_drop, List.length_cons, List.length_nil, List.length_reverse, vS_len, List.length_map]; exact sz_le (by omega), fun q21 hq21 => ?_⟩
    have n21 : q21 ∉ M := fun z => T20 _ z hq21
    have y21 := hide_same (M := M) (same_new (o := .lst ((vS ys).take r4 ++ [ov])) hq21)
    have tg := y21 _ _ tg
    have O := O.same y21
    have kS := y21 _ _ kS
    have kP := y21 _ _ kP
    have PD := PD.same y21
    have B := B.same y21
    have c1 := y21 _ _ c1
    have c2 := y21 _ _ c2
    have c3 : hide M (upd G20 q21 (.lst ((vS ys).take r4 ++ [ov]))) q21 = some (.lst ((vS ys).take r4 ++ [ov])) := hide_at n21 upd_same
    have P21 := P20.same (same_new (o := .lst ((vS ys).take r4 ++ [ov])) hq21)
    have T21 := tr_same T20 (same_new (o := .lst ((vS ys).take r4 ++ [ov])) hq21)
    have E21 := E20.trans (.of (same_new (o := .lst ((vS ys).take r4 ++ [ov])) hq21))
    generalize upd G20 q21 (.lst ((vS ys).take r4 ++ [ov])) = G21 at y21 P21 T21 E21 tg O kS kP PD B c1 c2 c3 ⊢
    clear y21 hq21 P20 E20 T20
    refine ⟨_, rfl, _, rfl, _, rfl, sm, _, rfl, SqL.of (hide_dv _ _ kS), fun q22 hq22 => ?_⟩
    rw [cut_drop]
    have n22 : q22 ∉ M := fun z => T21 _ z hq22
    have y22 := hide_same (M := M) (same_new (o := .lst ((vS ys).drop r4)) hq22)
    have tg := y22 _ _ tg
    have O := O.same y22
    have kS := y22 _ _ kS
    have kP := y22 _ _ kP
    have PD := PD.same y22
    have B := B.same y22
    have c1 := y22 _ _ c1
    have c2 := y22 _ _ c2
    have c3 := y22 _ _ c3
    have c4 : hide M (upd G21 q22 (.lst ((vS ys).drop r4))) q22 = some (.lst ((vS ys).drop r4)) := hide_at n22 upd_same
    have P22 := P21.same (same_new (o := .lst ((vS ys).drop r4)) hq22)
    have T22 := tr_same T21 (same_new (o := .lst ((vS ys).drop r4)) hq22)
    have E22 := E21.trans (.of (same_new (o := .lst ((vS ys).drop r4)) hq22))
    generalize upd G21 q22 (.lst ((vS ys).drop r4)) = G22 at y22 P22 T22 E22 tg O kS kP PD B c1 c2 c3 c4 ⊢
    clear y22 hq22 P21 E21 T21
    refine ⟨_, _, _, _, rfl, rfl, (hide_dv _ _ c3), (hide_dv _ _ c4), by simp only [List.length_append, List.length_take, List.length_drop, List.length_cons, List.length_nil, List.length_reverse, vS_len, List.length_map]; exact sz_le (by omega), fun q23 hq23 => ?_⟩
    have n23 : q23 ∉ M := fun z => T22 _ z hq23
    have y23 := hide_same (M := M) (same_new (o := .lst ((vS ys).take r4 ++ [ov] ++ (vS ys).drop r4)) hq23)
    have tg := y23 _ _ tg
    have O := O.same y23
    have kS := y23 _ _ kS
    have kP := y23 _ _ kP
    have PD := PD.same y23
    have B := B.same y23
    have c1 := y23 _ _ c1
    have c2 := y23 _ _ c2
    have c3 := y23 _ _ c3
    have c4 := y23 _ _ c4
    have c5 : hide M (upd G22 q23 (.lst ((vS ys).take r4 ++ [ov] ++ (vS ys).drop r4))) q23 = some (.lst ((vS ys).take r4 ++ [ov] ++ (vS ys).drop r4)) := hide_at n23 upd_same
    have P23 := P22.same (same_new (o := .lst ((vS ys).take r4 ++ [ov] ++ (vS ys).drop r4)) hq23)
    have T23 := tr_same T22 (same_new (o := .lst ((vS ys).take r4 ++ [ov] ++ (vS ys).drop r4)) hq23)
    have E23 := E22.trans (.of (same_new (o := .lst ((vS ys).take r4 ++ [ov] ++ (vS ys).drop r4)) hq23))
    generalize upd G22 q23 (.lst ((vS ys).take r4 ++ [ov] ++ (vS ys).drop r4)) = G23 at y23 P23 T23 E23 tg O kS kP PD B c1 c2 c3 c4 c5 ⊢
    clear y23 hq23 P22 E22 T22
    refine ⟨_, rfl, _, rfl, a, _, rfl, SqL.of (hide_dv _ _ tg), fun q24 hq24 => ?_⟩
    have n24 : q24 ∉ M := fun z => T23 _ z hq24
    have y24 := hide_same (M := M) (same_new (o := .lst (vS tags).reverse) hq24)
    have tg := y24 _ _ tg
    have O := O.same y24
    have kS := y24 _ _ kS
    have kP := y24 _ _ kP
    have PD := PD.same y24
    have B := B.same y24
    have c1 := y24 _ _ c1
    have c2 := y24 _ _ c2
    have c3 := y24 _ _ c3
    have c4 := y24 _ _ c4
    have c5 := y24 _ _ c5
    have c6 : hide M (upd G23 q24 (.lst (vS tags).reverse)) q24 = some (.lst (vS tags).reverse) := hide_at n24 upd_same
    have P24 := P23.same (same_new (o := .lst (vS tags).reverse) hq24)
    have T24 := tr_same T23 (same_new (o := .lst (vS tags).reverse) hq24)
    have E24 := E23.trans (.of (same_new (o := .lst (vS tags).reverse) hq24))
    generalize upd G23 q24 (.lst (vS tags).reverse) = G24 at y24 P24 T24 E24 tg O kS kP PD B c1 c2 c3 c4 c5 c6 ⊢
    clear y24 hq24 P23 E23 T23
    refine ⟨_, rfl, _, rfl, a, _, rfl, SqL.of (hide_dv _ _ tg), fun q25 hq25 => ?_⟩
    first | rw [cut_take, tk1] | rw [show (1 : Int) = ((1 : Nat) : Int) from rfl, cut_take, tk1]
    have n25 : q25 ∉ M := fun z => T24 _ z hq25
    have y25 := hide_same (M := M) (same_new (o := .lst [V.str t0]) hq25)
    have tg := y25 _ _ tg
    have O := O.same y25
    have kS := y25 _ _ kS
    have kP := y25 _ _ kP
    have PD := PD.same y25
    have B := B.same y25
    have c1 := y25 _ _ c1
    have c2 := y25 _ _ c2
    have c3 := y25 _ _ c3
    have c4 := y25 _ _ c4
    have c5 := y25 _ _ c5
    have c6 := y25 _ _ c6
    have c7 : hide M (upd G24 q25 (.lst [V.str t0])) q25 = some (.lst [V.str t0]) := hide_at n25 upd_same
    have P25 := P24.same (same_new (o := .lst [V.str t0]) hq25)
    have T25 := tr_same T24 (same_new (o := .lst [V.str t0]) hq25)
    have E25 := E24.trans (.of (same_new (o := .lst [V.str t0]) hq25))
    generalize upd G24 q25 (.lst [V.str t0]) = G25 at y25 P25 T25 E25 tg O kS kP PD B c1 c2 c3 c4 c5 c6 c7 ⊢
    clear y25 hq25 P24 E24 T24
    refine ⟨_, _, _, _, rfl, rfl, (hide_dv _ _ c6), (hide_dv _ _ c7), by simp only [List.length_append, List.length_take, List.length_drop, List.length_cons, List.length_nil, List.length_reverse, vS_len, List.length_map]; exact sz_le (by omega), fun q26 hq26 => ?_⟩
    have n26 : q26 ∉ M := fun z => T25 _ z hq26
    have y26 := hide_same (M := M) (same_new (o := .lst ((vS tags).reverse ++ [V.str t0])) hq26)
    have tg := y26 _ _ tg
    have O := O.same y26
    have kS := y26 _ _ kS
    have kP := y26 _ _ kP
    have PD := PD.same y26
    have B := B.same y26
    have c1 := y26 _ _ c1
    have c2 := y26 _ _ c2
    have c3 := y26 _ _ c3
    have c4 := y26 _ _ c4
    have c5 := y26 _ _ c5
    have c6 := y26 _ _ c6
    have c7 := y26 _ _ c7
    have c8 : hide M (upd G25 q26 (.lst ((vS tags).reverse ++ [V.str t0]))) q26 = some (.lst ((vS tags).reverse ++ [V.str t0])) := hide_at n26 upd_same
    have P26 := P25.same (same_new (o := .lst ((vS tags).reverse ++ [V.str t0])) hq26)
    have T26 := tr_same T25 (same_new (o := .lst ((vS tags).reverse ++ [V.str t0])) hq26)
    have E26 := E25.trans (.of (same_new (o := .lst ((vS tags).reverse ++ [V.str t0])) hq26))
    generalize upd G25 q26 (.lst ((vS tags).reverse ++ [V.str t0])) = G26 at y26 P26 T26 E26 tg O kS kP PD B c1 c2 c3 c4 c5 c6 c7 c8 ⊢
    clear y26 hq26 P25 E25 T25
    refine ⟨_, rfl, sm, (3 : Int), _, rfl, rfl, (hide_dv _ _ kS), by decide, by decide, by rw [vS_len]; show _ * 3 ≤ sizeLine; exact sz_le (by omega), fun q27 hq27 => ?_⟩
    have n27 : q27 ∉ M := fun z => T26 _ z hq27
    have y27 := hide_same (M := M) (same_new (o := .lst (List.replicate (3 : Int).toNat (vS ys)).flatten) hq27)
    have tg := y27 _ _ tg
    have O := O.same y27
    have kS := y27 _ _ kS
    have kP := y27 _ _ kP
    have PD := PD.same y27
    have B := B.same y27
    have c1 := y27 _ _ c1
    have c2 := y27 _ _ c2
    have c3 := y27 _ _ c3
    have c4 := y27 _ _ c4
    have c5 := y27 _ _ c5
    have c6 := y27 _ _ c6
    have c7 := y27 _ _ c7
    have c8 := y27 _ _ c8
    have c9 : hide M (upd G26 q27 (.lst (List.replicate (3 : Int).toNat (vS ys)).flatten)) q27 = some (.lst (List.replicate (3 : Int).toNat (vS ys)).flatten) := hide_at n27 upd_same
    have P27 := P26.same (same_new (o := .lst (List.replicate (3 : Int).toNat (vS ys)).flatten) hq27)
    have T27 := tr_same T26 (same_new (o := .lst (List.replicate (3 : Int).toNat (vS ys)).flatten) hq27)
    have E27 := E26.trans (.of (same_new (o := .lst (List.replicate (3 : Int).toNat (vS ys)).flatten) hq27))
    generalize upd G26 q27 (.lst (List.replicate (3 : Int).toNat (vS ys)).flatten) = G27 at y27 P27 T27 E27 tg O kS kP PD B c1 c2 c3 c4 c5 c6 c7 c8 c9 ⊢
    clear y27 hq27 P26 E26 T26
    refine ⟨_, rfl, by show 8 ≤ sizeLine; decide, fun q28 hq28 => ?_⟩
    have n28 : q28 ∉ M := fun z => T27 _ z hq28
    have y28 := hide_same (M := M) (same_new (o := .lst [V.str t0, ov, .ref sm, .ref q23, .ref a, .ref q26, .ref q27, .ref pr]) hq28)
    have tg := y28 _ _ tg
    have O := O.same y28
    have kS := y28 _ _ kS
    have kP := y28 _ _ kP
    have PD := PD.same y28
    have B := B.same y28
    have c1 := y28 _ _ c1
    have c2 := y28 _ _ c2
    have c3 := y28 _ _ c3
    have c4 := y28 _ _ c4
    have c5 := y28 _ _ c5
    have c6 := y28 _ _ c6
    have c7 := y28 _ _ c7
    have c8 := y28 _ _ c8
    have c9 := y28 _ _ c9
    have m1 : hide M (upd G27 q28 (.lst [V.str t0, ov, .ref sm, .ref q23, .ref a, .ref q26, .ref q27, .ref pr])) q28 = some (.lst [V.str t0, ov, .ref sm, .ref q23, .ref a, .ref q26, .ref q27, .ref pr]) := hide_at n28 upd_same
    have P28 := P27.same (same_new (o := .lst [V.str t0, ov, .ref sm, .ref q23, .ref a, .ref q26, .ref q27, .ref pr]) hq28)
    have T28 := tr_same T27 (same_new (o := .lst [V.str t0, ov, .ref sm, .ref q23, .ref a, .ref q26, .ref q27, .ref pr]) hq28)
    have E28 := E27.trans (.of (same_new (o := .lst [V.str t0, ov, .ref sm, .ref q23, .ref a, .ref q26, .ref q27, .ref pr]) hq28))
    generalize upd G27 q28 (.lst [V.str t0, ov, .ref sm, .ref q23, .ref a, .ref q26, .ref q27, .ref pr]) = G28 at y28 P28 T28 E28 tg O kS kP PD B c1 c2 c3 c4 c5 c6 c7 c8 c9 m1 ⊢
    clear y28 hq28 P27 E27 T27
    clear c1 c2 c3 c4 c6 c7
    refine ⟨_, rfl, _, rfl, _, rfl, by show 1 ≤ sizeLine; decide, fun q29 hq29 => ?_⟩
    have n29 : q29 ∉ M := fun z => T28 _ z hq29
    have y29 := hide_same (M := M) (same_new (o := .lst [bv]) hq29)
    have tg := y29 _ _ tg
    have O := O.same y29
    have kS := y29 _ _ kS
    have kP := y29 _ _ kP
    have PD := PD.same y29
    have B := B.same y29
    have c5 := y29 _ _ c5
    have c8 := y29 _ _ c8
    have c9 := y29 _ _ c9
    have m1 := y29 _ _ m1
    have d1 : hide M (upd G28 q29 (.lst [bv])) q29 = some (.lst [bv]) := hide_at n29 upd_same
    have P29 := P28.same (same_new (o := .lst [bv]) hq29)
    have T29 := tr_same T28 (same_new (o := .lst [bv]) hq29)
    have E29 := E28.trans (.of (same_new (o := .lst [bv]) hq29))
    generalize upd G28 q29 (.lst [bv]) = G29 at y29 P29 T29 E29 tg O kS kP PD B c5 c8 c9 m1 d1 ⊢
    clear y29 hq29 P28 E28 T28
    refine ⟨_, _, _, _, rfl, rfl, (hide_dv _ _ kP), (hide_dv _ _ d1), by simp only [List.length_append, List.length_take, List.length_drop, List.length_cons, List.length_nil, List.length_reverse, vS_len, List.length_map]; exact sz_le (by omega), fun q30 hq30 => ?_⟩
    have n30 : q30 ∉ M := fun z => T29 _ z hq30
    have y30 := hide_same (M := M) (same_new (o := .lst (ts.map V.ref ++ [bv])) hq30)
    have tg := y30 _ _ tg
    have O := O.same y30
    have kS := y30 _ _ kS
    have kP := y30 _ _ kP
    have PD := PD.same y30
    have B := B.same y30
    have c5 := y30 _ _ c5
    have c8 := y30 _ _ c8
    have c9 := y30 _ _ c9
    have m1 := y30 _ _ m1
    have d1 := y30 _ _ d1
    have d2 : hide M (upd G29 q30 (.lst (ts.map V.ref ++ [bv]))) q30 = some (.lst (ts.map V.ref ++ [bv])) := hide_at n30 upd_same
    have P30 := P29.same (same_new (o := .lst (ts.map V.ref ++ [bv])) hq30)
    have T30 := tr_same T29 (same_new (o := .lst (ts.map V.ref ++ [bv])) hq30)
    have E30 := E29.trans (.of (same_new (o := .lst (ts.map V.ref ++ [bv])) hq30))
    generalize upd G29 q30 (.lst (ts.map V.ref ++ [bv])) = G30 at y30 P30 T30 E30 tg O kS kP PD B c5 c8 c9 m1 d1 d2 ⊢
    clear y30 hq30 P29 E29 T29
    refine ⟨_, rfl, by show 1 ≤ sizeLine; decide, fun q31 hq31 => ?_⟩
    have n31 : q31 ∉ M := fun z => T30 _ z hq31
    have y31 := hide_same (M := M) (same_new (o := .lst [bv]) hq31)
    have tg := y31 _ _ tg
    have O := O.same y31
    have kS := y31 _ _ kS
    have kP := y31 _ _ kP
    have PD := PD.same y31
    have B := B.same y31
    have c5 := y31 _ _ c5
    have c8 := y31 _ _ c8
    have c9 := y31 _ _ c9
    have m1 := y31 _ _ m1
    have d1 := y31 _ _ d1
    have d2 := y31 _ _ d2
    have d3 : hide M (upd G30 q31 (.lst [bv])) q31 = some (.lst [bv]) := hide_at n31 upd_same
    have P31 := P30.same (same_new (o := .lst [bv]) hq31)
    have T31 := tr_same T30 (same_new (o := .lst [bv]) hq31)
    have E31 := E30.trans (.of (same_new (o := .lst [bv]) hq31))
    generalize upd G30 q31 (.lst [bv]) = G31 at y31 P31 T31 E31 tg O kS kP PD B c5 c8 c9 m1 d1 d2 d3 ⊢
    clear y31 hq31 P30 E30 T30
    refine ⟨_, rfl, _, _, _, _, rfl, rfl, (hide_dv _ _ d3), (hide_dv _ _ kP), by simp only [List.length_append, List.length_take, List.length_drop, List.length_cons, List.length_nil, List.length_reverse, vS_len, List.length_map]; exact sz_le (by omega), fun q32 hq32 => ?_⟩
    have n32 : q32 ∉ M := fun z => T31 _ z hq32
    have y32 := hide_same (M := M) (same_new (o := .lst ([bv] ++ ts.map V.ref)) hq32)
    have tg := y32 _ _ tg
    have O := O.same y32
    have kS := y32 _ _ kS
    have kP := y32 _ _ kP
    have PD := PD.same y32
    have B := B.same y32
    have c5 := y32 _ _ c5
    have c8 := y32 _ _ c8
    have c9 := y32 _ _ c9
    have m1 := y32 _ _ m1
    have d1 := y32 _ _ d1
    have d2 := y32 _ _ d2
    have d3 := y32 _ _ d3
    have d4 : hide M (upd G31 q32 (.lst ([bv] ++ ts.map V.ref))) q32 = some (.lst ([bv] ++ ts.map V.ref)) := hide_at n32 upd_same
    have P32 := P31.same (same_new (o := .lst ([bv] ++ ts.map V.ref)) hq32)
    have T32 := tr_same T31 (same_new (o := .lst ([bv] ++ ts.map V.ref)) hq32)
    have E32 := E31.trans (.of (same_new (o := .lst ([bv] ++ ts.map V.ref)) hq32))
    generalize upd G31 q32 (.lst ([bv] ++ ts.map V.ref)) = G32 at y32 P32 T32 E32 tg O kS kP PD B c5 c8 c9 m1 d1 d2 d3 d4 ⊢
    clear y32 hq32 P31 E31 T31
    refine ⟨_, rfl, _, _, rfl, .inl ⟨SqL.of (hide_dv _ _ kP), fun q33 hq33 => ?_⟩⟩
    have n33 : q33 ∉ M := fun z => T32 _ z hq33
    have y33 := hide_same (M := M) (same_new (o := .tup (ts.map V.ref)) hq33)
    have tg := y33 _ _ tg
    have O := O.same y33
    have kS := y33 _ _ kS
    have kP := y33 _ _ kP
    have PD := PD.same y33
    have B := B.same y33
    have c5 := y33 _ _ c5
    have c8 := y33 _ _ c8
    have c9 := y33 _ _ c9
    have m1 := y33 _ _ m1
    have d1 := y33 _ _ d1
    have d2 := y33 _ _ d2
    have d3 := y33 _ _ d3
    have d4 := y33 _ _ d4
    have d5 : hide M (upd G32 q33 (.tup (ts.map V.ref))) q33 = some (.tup (ts.map V.ref)) := hide_at n33 upd_same
    have P33 := P32.same (same_new (o := .tup (ts.map V.ref)) hq33)
    have T33 := tr_same T32 (same_new (o := .tup (ts.map V.ref)) hq33)
    have E33 := E32.trans (.of (same_new (o := .tup (ts.map V.ref)) hq33))
    generalize upd G32 q33 (.tup (ts.map V.ref)) = G33 at y33 P33 T33 E33 tg O kS kP PD B c5 c8 c9 m1 d1 d2 d3 d4 d5 ⊢
    clear y33 hq33 P32 E32 T32
    refine ⟨_, rfl, _, _, rfl, .inl ⟨SqL.of (hide_dv _ _ tg), fun q34 hq34 => ?_⟩⟩
    have n34 : q34 ∉ M := fun z => T33 _ z hq34
    have y34 := hide_same (M := M) (same_new (o := .tup (vS tags)) hq34)
    have tg := y34 _ _ tg
    have O := O.same y34
    have kS := y34 _ _ kS
    have kP := y34 _ _ kP
    have PD := PD.same y34
    have B := B.same y34
    have c5 := y34 _ _ c5
    have c8 := y34 _ _ c8
    have c9 := y34 _ _ c9
    have m1 := y34 _ _ m1
    have d1 := y34 _ _ d1
    have d2 := y34 _ _ d2
    have d3 := y34 _ _ d3
    have d4 := y34 _ _ d4
    have d5 := y34 _ _ d5
    have d6 : hide M (upd G33 q34 (.tup (vS tags))) q34 = some (.tup (vS tags)) := hide_at n34 upd_same
    have P34 := P33.same (same_new (o := .tup (vS tags)) hq34)
    have T34 := tr_same T33 (same_new (o := .tup (vS tags)) hq34)
    have E34 := E33.trans (.of (same_new (o := .tup (vS tags)) hq34))
    generalize upd G33 q34 (.tup (vS tags)) = G34 at y34 P34 T34 E34 tg O kS kP PD B c5 c8 c9 m1 d1 d2 d3 d4 d5 d6 ⊢
    clear y34 hq34 P33 E33 T33
    refine ⟨by show 0 ≤ sizeLine; decide, fun q35 hq35 => ?_⟩
    have n35 : q35 ∉ M := fun z => T34 _ z hq35
    have y35 := hide_same (M := M) (same_new (o := .lst []) hq35)
    have tg := y35 _ _ tg
    have O := O.same y35
    have kS := y35 _ _ kS
    have kP := y35 _ _ kP
    have PD := PD.same y35
    have B := B.same y35
    have c5 := y35 _ _ c5
    have c8 := y35 _ _ c8
    have c9 := y35 _ _ c9
    have m1 := y35 _ _ m1
    have d1 := y35 _ _ d1
    have d2 := y35 _ _ d2
    have d3 := y35 _ _ d3
    have d4 := y35 _ _ d4
    have d5 := y35 _ _ d5
    have d6 := y35 _ _ d6
    have d7 : hide M (upd G34 q35 (.lst [])) q35 = some (.lst []) := hide_at n35 upd_same
    have P35 := P34.same (same_new (o := .lst []) hq35)
    have T35 := tr_same T34 (same_new (o := .lst []) hq35)
    have E35 := E34.trans (.of (same_new (o := .lst []) hq35))
    generalize upd G34 q35 (.lst []) = G35 at y35 P35 T35 E35 tg O kS kP PD B c5 c8 c9 m1 d1 d2 d3 d4 d5 d6 d7 ⊢
    clear y35 hq35 P34 E34 T34
    refine ⟨_, rfl, _, rfl, by show 2 ≤ sizeLine; decide, fun q36 hq36 => ?_⟩
    have n36 : q36 ∉ M := fun z => T35 _ z hq36
    have y36 := hide_same (M := M) (same_new (o := .lst [ov, ov]) hq36)
    have tg := y36 _ _ tg
    have O := O.same y36
    have kS := y36 _ _ kS
    have kP := y36 _ _ kP
    have PD := PD.same y36
    have B := B.same y36
    have c5 := y36 _ _ c5
    have c8 := y36 _ _ c8
    have c9 := y36 _ _ c9
    have m1 := y36 _ _ m1
    have d1 := y36 _ _ d1
    have d2 := y36 _ _ d2
    have d3 := y36 _ _ d3
    have d4 := y36 _ _ d4
    have d5 := y36 _ _ d5
    have d6 := y36 _ _ d6
    have d7 := y36 _ _ d7
    have d8 : hide M (upd G35 q36 (.lst [ov, ov])) q36 = some (.lst [ov, ov]) := hide_at n36 upd_same
    have P36 := P35.same (same_new (o := .lst [ov, ov]) hq36)
    have T36 := tr_same T35 (same_new (o := .lst [ov, ov]) hq36)
    have E36 := E35.trans (.of (same_new (o := .lst [ov, ov]) hq36))
    generalize upd G35 q36 (.lst [ov, ov]) = G36 at y36 P36 T36 E36 tg O kS kP PD B c5 c8 c9 m1 d1 d2 d3 d4 d5 d6 d7 d8 ⊢
    clear y36 hq36 P35 E35 T35
    refine ⟨_, rfl, _, rfl, a, _, _, _, rfl, rfl, SqL.of (hide_dv _ _ tg), atI_last' el2, by show 8 ≤ sizeLine; decide, fun q37 hq37 => ?_⟩
    have n37 : q37 ∉ M := fun z => T36 _ z hq37
    have y37 := hide_same (M := M) (same_new (o := .lst [V.ref q30, .ref q32, .ref q33, .ref q34, .ref q35, .non, .ref q36, .str tl]) hq37)
    have tg := y37 _ _ tg
    have O := O.same y37
    have kS := y37 _ _ kS
    have kP := y37 _ _ kP
    have PD := PD.same y37
    have B := B.same y37
    have c5 := y37 _ _ c5
    have c8 := y37 _ _ c8
    have c9 := y37 _ _ c9
    have m1 := y37 _ _ m1
    have d1 := y37 _ _ d1
    have d2 := y37 _ _ d2
    have d3 := y37 _ _ d3
    have d4 := y37 _ _ d4
    have d5 := y37 _ _ d5
    have d6 := y37 _ _ d6
    have d7 := y37 _ _ d7
    have d8 := y37 _ _ d8
    have d9 : hide M (upd G36 q37 (.lst [V.ref q30, .ref q32, .ref q33, .ref q34, .ref q35, .non, .ref q36, .str tl])) q37 = some (.lst [V.ref q30, .ref q32, .ref q33, .ref q34, .ref q35, .non, .ref q36, .str tl]) := hide_at n37 upd_same
    have P37 := P36.same (same_new (o := .lst [V.ref q30, .ref q32, .ref q33, .ref q34, .ref q35, .non, .ref q36, .str tl]) hq37)
    have T37 := tr_same T36 (same_new (o := .lst [V.ref q30, .ref q32, .ref q33, .ref q34, .ref q35, .non, .ref q36, .str tl]) hq37)
    have E37 := E36.trans (.of (same_new (o := .lst [V.ref q30, .ref q32, .ref q33, .ref q34, .ref q35, .non, .ref q36, .str tl]) hq37))
    generalize upd G36 q37 (.lst [V.ref q30, .ref q32, .ref q33, .ref q34, .ref q35, .non, .ref q36, .str tl]) = G37 at y37 P37 T37 E37 tg O kS kP PD B c5 c8 c9 m1 d1 d2 d3 d4 d5 d6 d7 d8 d9 ⊢
    clear y37 hq37 P36 E36 T36
    refine ⟨_, _, _, _, rfl, rfl, (hide_dv _ _ m1), (hide_dv _ _ d9), by show 16 ≤ sizeLine; decide, fun q38 hq38 => ?_⟩
    have n38 : q38 ∉ M := fun z => T37 _ z hq38
    have y38 := hide_same (M := M) (same_new (o := .lst ([V.str t0, ov, .ref sm, .ref q23, .ref a, .ref q26, .ref q27, .ref pr] ++ [V.ref q30, .ref q32, .ref q33, .ref q34, .ref q35, .non, .ref q36, .str tl])) hq38)
    have tg := y38 _ _ tg
    have O := O.same y38
    have kS := y38 _ _ kS
    have kP := y38 _ _ kP
    have PD := PD.same y38
    have B := B.same y38
    have c5 := y38 _ _ c5
    have c8 := y38 _ _ c8
    have c9 := y38 _ _ c9
    have m1 := y38 _ _ m1
    have d1 := y38 _ _ d1
    have d2 := y38 _ _ d2
    have d3 := y38 _ _ d3
    have d4 := y38 _ _ d4
    have d5 := y38 _ _ d5
    have d6 := y38 _ _ d6
    have d7 := y38 _ _ d7
    have d8 := y38 _ _ d8
    have d9 := y38 _ _ d9
    have d10 : hide M (upd G37 q38 (.lst ([V.str t0, ov, .ref sm, .ref q23, .ref a, .ref q26, .ref q27, .ref pr] ++ [V.ref q30, .ref q32, .ref q33, .ref q34, .ref q35, .non, .ref q36, .str tl]))) q38 = some (.lst ([V.str t0, ov, .ref sm, .ref q23, .ref a, .ref q26, .ref q27, .ref pr] ++ [V.ref q30, .ref q32, .ref q33, .ref q34, .ref q35, .non, .ref q36, .str tl])) := hide_at n38 upd_same
    have P38 := P37.same (same_new (o := .lst ([V.str t0, ov, .ref sm, .ref q23, .ref a, .ref q26, .ref q27, .ref pr] ++ [V.ref q30, .ref q32, .ref q33, .ref q34, .ref q35, .non, .ref q36, .str tl])) hq38)
    have T38 := tr_same T37 (same_new (o := .lst ([V.str t0, ov, .ref sm, .ref q23, .ref a, .ref q26, .ref q27, .ref pr] ++ [V.ref q30, .ref q32, .ref q33, .ref q34, .ref q35, .non, .ref q36, .str tl])) hq38)
    have E38 := E37.trans (.of (same_new (o := .lst ([V.str t0, ov, .ref sm, .ref q23, .ref a, .ref q26, .ref q27, .ref pr] ++ [V.ref q30, .ref q32, .ref q33, .ref q34, .ref q35, .non, .ref q36, .str tl])) hq38))
    generalize upd G37 q38 (.lst ([V.str t0, ov, .ref sm, .ref q23, .ref a, .ref q26, .ref q27, .ref pr] ++ [V.ref q30, .ref q32, .ref q33, .ref q34, .ref q35, .non, .ref q36, .str tl])) = G38 at y38 P38 T38 E38 tg O kS kP PD B c5 c8 c9 m1 d1 d2 d3 d4 d5 d6 d7 d8 d9 d10 ⊢
    clear y38 hq38 P37 E37 T37
    clear d1 d3 m1 d9
    refine ⟨_, rfl, _, rfl, _, rfl, _, rfl, pr, _, rfl, SqL.of (hide_dv _ _ kP), fun q39 hq39 => ?_⟩
    first | rw [cut_take] | rw [show (1 : Int) = ((1 : Nat) : Int) from rfl, cut_take]
    have n39 : q39 ∉ M := fun z => T38 _ z hq39
    have y39 := hide_same (M := M) (same_new (o := .lst ((ts.map V.ref).take 1)) hq39)
    have tg := y39 _ _ tg
    have O := O.same y39
    have kS := y39 _ _ kS
    have kP := y39 _ _ kP
    have PD := PD.same y39
    have B := B.same y39
    have c5 := y39 _ _ c5
    have c8 := y39 _ _ c8
    have c9 := y39 _ _ c9
    have d2 := y39 _ _ d2
    have d4 := y39 _ _ d4
    have d5 := y39 _ _ d5
    have d6 := y39 _ _ d6
    have d7 := y39 _ _ d7
    have d8 := y39 _ _ d8
    have d10 := y39 _ _ d10
    have e1 : hide M (upd G38 q39 (.lst ((ts.map V.ref).take 1))) q39 = some (.lst ((ts.map V.ref).take 1)) := hide_at n39 upd_same
    have P39 := P38.same (same_new (o := .lst ((ts.map V.ref).take 1)) hq39)
    have T39 := tr_same T38 (same_new (o := .lst ((ts.map V.ref).take 1)) hq39)
    have E39 := E38.trans (.of (same_new (o := .lst ((ts.map V.ref).take 1)) hq39))
    generalize upd G38 q39 (.lst ((ts.map V.ref).take 1)) = G39 at y39 P39 T39 E39 tg O kS kP PD B c5 c8 c9 d2 d4 d5 d6 d7 d8 d10 e1 ⊢
    clear y39 hq39 P38 E38 T38
    refine ⟨_, _, _, _, rfl, rfl, (hide_dv _ _ kP), (hide_dv _ _ e1), by simp only [List.length_append, List.length_take, List.length_drop, List.length_cons, List.length_nil, List.length_reverse, vS_len, List.length_map]; exact sz_le (by omega), fun q40 hq40 => ?_⟩
    have n40 : q40 ∉ M := fun z => T39 _ z hq40
    have y40 := hide_same (M := M) (same_new (o := .lst (ts.map V.ref ++ (ts.map V.ref).take 1)) hq40)
    have tg := y40 _ _ tg
    have O := O.same y40
    have kS := y40 _ _ kS
    have kP := y40 _ _ kP
    have PD := PD.same y40
    have B := B.same y40
    have c5 := y40 _ _ c5
    have c8 := y40 _ _ c8
    have c9 := y40 _ _ c9
    have d2 := y40 _ _ d2
    have d4 := y40 _ _ d4
    have d5 := y40 _ _ d5
    have d6 := y40 _ _ d6
    have d7 := y40 _ _ d7
    have d8 := y40 _ _ d8
    have d10 := y40 _ _ d10
    have e1 := y40 _ _ e1
    have e2 : hide M (upd G39 q40 (.lst (ts.map V.ref ++ (ts.map V.ref).take 1))) q40 = some (.lst (ts.map V.ref ++ (ts.map V.ref).take 1)) := hide_at n40 upd_same
    have P40 := P39.same (same_new (o := .lst (ts.map V.ref ++ (ts.map V.ref).take 1)) hq40)
    have T40 := tr_same T39 (same_new (o := .lst (ts.map V.ref ++ (ts.map V.ref).take 1)) hq40)
    have E40 := E39.trans (.of (same_new (o := .lst (ts.map V.ref ++ (ts.map V.ref).take 1)) hq40))
    generalize upd G39 q40 (.lst (ts.map V.ref ++ (ts.map V.ref).take 1)) = G40 at y40 P40 T40 E40 tg O kS kP PD B c5 c8 c9 d2 d4 d5 d6 d7 d8 d10 e1 e2 ⊢
    clear y40 hq40 P39 E39 T39
    refine ⟨_, rfl, by show 1 ≤ sizeLine; decide, fun q41 hq41 => ?_⟩
    have n41 : q41 ∉ M := fun z => T40 _ z hq41
    have y41 := hide_same (M := M) (same_new (o := .lst [bv]) hq41)
    have tg := y41 _ _ tg
    have O := O.same y41
    have kS := y41 _ _ kS
    have kP := y41 _ _ kP
    have PD := PD.same y41
    have B := B.same y41
    have c5 := y41 _ _ c5
    have c8 := y41 _ _ c8
    have c9 := y41 _ _ c9
    have d2 := y41 _ _ d2
    have d4 := y41 _ _ d4
    have d5 := y41 _ _ d5
    have d6 := y41 _ _ d6
    have d7 := y41 _ _ d7
    have d8 := y41 _ _ d8
    have d10 := y41 _ _ d10
    have e1 := y41 _ _ e1
    have e2 := y41 _ _ e2
    have e3 : hide M (upd G40 q41 (.lst [bv])) q41 = some (.lst [bv]) := hide_at n41 upd_same
    have P41 := P40.same (same_new (o := .lst [bv]) hq41)
    have T41 := tr_same T40 (same_new (o := .lst [bv]) hq41)
    have E41 := E40.trans (.of (same_new (o := .lst [bv]) hq41))
    generalize upd G40 q41 (.lst [bv]) = G41 at y41 P41 T41 E41 tg O kS kP PD B c5 c8 c9 d2 d4 d5 d6 d7 d8 d10 e1 e2 e3 ⊢
    clear y41 hq41 P40 E40 T40
    refine ⟨_, _, _, _, rfl, rfl, (hide_dv _ _ e2), (hide_dv _ _ e3), by simp only [List.length_append, List.length_take, List.length_drop, List.length_cons, List.length_nil, List.length_reverse, vS_len, List.length_map]; exact sz_le (by omega), fun q42 hq42 => ?_⟩
    have n42 : q42 ∉ M := fun z => T41 _ z hq42
    have y42 := hide_same (M := M) (same_new (o := .lst (ts.map V.ref ++ (ts.map V.ref).take 1 ++ [bv])) hq42)
    have tg := y42 _ _ tg
    have O := O.same y42
    have kS := y42 _ _ kS
    have kP := y42 _ _ kP
    have PD := PD.same y42
    have B := B.same y42
    have c5 := y42 _ _ c5
    have c8 := y42 _ _ c8
    have c9 := y42 _ _ c9
    have d2 := y42 _ _ d2
    have d4 := y42 _ _ d4
    have d5 := y42 _ _ d5
    have d6 := y42 _ _ d6
    have d7 := y42 _ _ d7
    have d8 := y42 _ _ d8
    have d10 := y42 _ _ d10
    have e1 := y42 _ _ e1
    have e2 := y42 _ _ e2
    have e3 := y42 _ _ e3
    have e4 : hide M (upd G41 q42 (.lst (ts.map V.ref ++ (ts.map V.ref).take 1 ++ [bv]))) q42 = some (.lst (ts.map V.ref ++ (ts.map V.ref).take 1 ++ [bv])) := hide_at n42 upd_same
    have P42 := P41.same (same_new (o := .lst (ts.map V.ref ++ (ts.map V.ref).take 1 ++ [bv])) hq42)
    have T42 := tr_same T41 (same_new (o := .lst (ts.map V.ref ++ (ts.map V.ref).take 1 ++ [bv])) hq42)
    have E42 := E41.trans (.of (same_new (o := .lst (ts.map V.ref ++ (ts.map V.ref).take 1 ++ [bv])) hq42))
    generalize upd G41 q42 (.lst (ts.map V.ref ++ (ts.map V.ref).take 1 ++ [bv])) = G42 at y42 P42 T42 E42 tg O kS kP PD B c5 c8 c9 d2 d4 d5 d6 d7 d8 d10 e1 e2 e3 e4 ⊢
    clear y42 hq42 P41 E41 T41
    refine ⟨_, rfl, by show 1 ≤ sizeLine; decide, fun q43 hq43 => ?_⟩
    have n43 : q43 ∉ M := fun z => T42 _ z hq43
    have y43 := hide_same (M := M) (same_new (o := .lst [ov]) hq43)
    have tg := y43 _ _ tg
    have O := O.same y43
    have kS := y43 _ _ kS
    have kP := y43 _ _ kP
    have PD := PD.same y43
    have B := B.same y43
    have c5 := y43 _ _ c5
    have c8 := y43 _ _ c8
    have c9 := y43 _ _ c9
    have d2 := y43 _ _ d2
    have d4 := y43 _ _ d4
    have d5 := y43 _ _ d5
    have d6 := y43 _ _ d6
    have d7 := y43 _ _ d7
    have d8 := y43 _ _ d8
    have d10 := y43 _ _ d10
    have e1 := y43 _ _ e1
    have e2 := y43 _ _ e2
    have e3 := y43 _ _ e3
    have e4 := y43 _ _ e4
    have e5 : hide M (upd G42 q43 (.lst [ov])) q43 = some (.lst [ov]) := hide_at n43 upd_same
    have P43 := P42.same (same_new (o := .lst [ov]) hq43)
    have T43 := tr_same T42 (same_new (o := .lst [ov]) hq43)
    have E43 := E42.trans (.of (same_new (o := .lst [ov]) hq43))
    generalize upd G42 q43 (.lst [ov]) = G43 at y43 P43 T43 E43 tg O kS kP PD B c5 c8 c9 d2 d4 d5 d6 d7 d8 d10 e1 e2 e3 e4 e5 ⊢
    clear y43 hq43 P42 E42 T42
    refine ⟨_, rfl, _, rfl, a, _, rfl, SqL.of (hide_dv _ _ tg), fun q44 hq44 => ?_⟩
    first | rw [cut_take, tk1] | rw [show (1 : Int) = ((1 : Nat) : Int) from rfl, cut_take, tk1]
    have n44 : q44 ∉ M := fun z => T43 _ z hq44
    have y44 := hide_same (M := M) (same_new (o := .lst [V.str t0]) hq44)
    have tg := y44 _ _ tg
    have O := O.same y44
    have kS := y44 _ _ kS
    have kP := y44 _ _ kP
    have PD := PD.same y44
    have B := B.same y44
    have c5 := y44 _ _ c5
    have c8 := y44 _ _ c8
    have c9 := y44 _ _ c9
    have d2 := y44 _ _ d2
    have d4 := y44 _ _ d4
    have d5 := y44 _ _ d5
    have d6 := y44 _ _ d6
    have d7 := y44 _ _ d7
    have d8 := y44 _ _ d8
    have d10 := y44 _ _ d10
    have e1 := y44 _ _ e1
    have e2 := y44 _ _ e2
    have e3 := y44 _ _ e3
    have e4 := y44 _ _ e4
    have e5 := y44 _ _ e5
    have e6 : hide M (upd G43 q44 (.lst [V.str t0])) q44 = some (.lst [V.str t0]) := hide_at n44 upd_same
    have P44 := P43.same (same_new (o := .lst [V.str t0]) hq44)
    have T44 := tr_same T43 (same_new (o := .lst [V.str t0]) hq44)
    have E44 := E43.trans (.of (same_new (o := .lst [V.str t0]) hq44))
    generalize upd G43 q44 (.lst [V.str t0]) = G44 at y44 P44 T44 E44 tg O kS kP PD B c5 c8 c9 d2 d4 d5 d6 d7 d8 d10 e1 e2 e3 e4 e5 e6 ⊢
    clear y44 hq44 P43 E43 T43
    refine ⟨q44, (8 : Int), _, rfl, rfl, (hide_dv _ _ e6), by decide, by decide, by show 1 * 8 ≤ sizeLine; decide, fun q45 hq45 => ?_⟩
    have n45 : q45 ∉ M := fun z => T44 _ z hq45
    have y45 := hide_same (M := M) (same_new (o := .lst (List.replicate (8 : Int).toNat [V.str t0]).flatten) hq45)
    have tg := y45 _ _ tg
    have O := O.same y45
    have kS := y45 _ _ kS
    have kP := y45 _ _ kP
    have PD := PD.same y45
    have B := B.same y45
    have c5 := y45 _ _ c5
    have c8 := y45 _ _ c8
    have c9 := y45 _ _ c9
    have d2 := y45 _ _ d2
    have d4 := y45 _ _ d4
    have d5 := y45 _ _ d5
    have d6 := y45 _ _ d6
    have d7 := y45 _ _ d7
    have d8 := y45 _ _ d8
    have d10 := y45 _ _ d10
    have e1 := y45 _ _ e1
    have e2 := y45 _ _ e2
    have e3 := y45 _ _ e3
    have e4 := y45 _ _ e4
    have e5 := y45 _ _ e5
    have e6 := y45 _ _ e6
    have e7 : hide M (upd G44 q45 (.lst (List.replicate (8 : Int).toNat [V.str t0]).flatten)) q45 = some (.lst (List.replicate (8 : Int).toNat [V.str t0]).flatten) := hide_at n45 upd_same
    have P45 := P44.same (same_new (o := .lst (List.replicate (8 : Int).toNat [V.str t0]).flatten) hq45)
    have T45 := tr_same T44 (same_new (o := .lst (List.replicate (8 : Int).toNat [V.str t0]).flatten) hq45)
    have E45 := E44.trans (.of (same_new (o := .lst (List.replicate (8 : Int).toNat [V.str t0]).flatten) hq45))
    generalize upd G44 q45 (.lst (List.replicate (8 : Int).toNat [V.str t0]).flatten) = G45 at y45 P45 T45 E45 tg O kS kP PD B c5 c8 c9 d2 d4 d5 d6 d7 d8 d10 e1 e2 e3 e4 e5 e6 e7 ⊢
    clear y45 hq45 P44 E44 T44
    refine ⟨_, _, _, _, rfl, rfl, (hide_dv _ _ e5), (hide_dv _ _ e7), by rw [flat_one]; show 9 ≤ sizeLine; decide, fun q46 hq46 => ?_⟩
    have n46 : q46 ∉ M := fun z => T45 _ z hq46
    have y46 := hide_same (M := M) (same_new (o := .lst ([ov] ++ (List.replicate (8 : Int).toNat [V.str t0]).flatten)) hq46)
    have tg := y46 _ _ tg
    have O := O.same y46
    have kS := y46 _ _ kS
    have kP := y46 _ _ kP
    have PD := PD.same y46
    have B := B.same y46
    have c5 := y46 _ _ c5
    have c8 := y46 _ _ c8
    have c9 := y46 _ _ c9
    have d2 := y46 _ _ d2
    have d4 := y46 _ _ d4
    have d5 := y46 _ _ d5
    have d6 := y46 _ _ d6
    have d7 := y46 _ _ d7
    have d8 := y46 _ _ d8
    have d10 := y46 _ _ d10
    have e1 := y46 _ _ e1
    have e2 := y46 _ _ e2
    have e3 := y46 _ _ e3
    have e4 := y46 _ _ e4
    have e5 := y46 _ _ e5
    have e6 := y46 _ _ e6
    have e7 := y46 _ _ e7
    have e8 : hide M (upd G45 q46 (.lst ([ov] ++ (List.replicate (8 : Int).toNat [V.str t0]).flatten))) q46 = some (.lst ([ov] ++ (List.replicate (8 : Int).toNat [V.str t0]).flatten)) := hide_at n46 upd_same
    have P46 := P45.same (same_new (o := .lst ([ov] ++ (List.replicate (8 : Int).toNat [V.str t0]).flatten)) hq46)
    have T46 := tr_same T45 (same_new (o := .lst ([ov] ++ (List.replicate (8 : Int).toNat [V.str t0]).flatten)) hq46)
    have E46 := E45.trans (.of (same_new (o := .lst ([ov] ++ (List.replicate (8 : Int).toNat [V.str t0]).flatten)) hq46))
    generalize upd G45 q46 (.lst ([ov] ++ (List.replicate (8 : Int).toNat [V.str t0]).flatten)) = G46 at y46 P46 T46 E46 tg O kS kP PD B c5 c8 c9 d2 d4 d5 d6 d7 d8 d10 e1 e2 e3 e4 e5 e6 e7 e8 ⊢
    clear y46 hq46 P45 E45 T45
    refine ⟨_, rfl, _, rfl, a, _, rfl, SqL.of (hide_dv _ _ tg), fun q47 hq47 => ?_⟩
    first | rw [cut_take, tk1] | rw [show (1 : Int) = ((1 : Nat) : Int) from rfl, cut_take, tk1]
    have n47 : q47 ∉ M := fun z => T46 _ z hq47
    have y47 := hide_same (M := M) (same_new (o := .lst [V.str t0]) hq47)
    have tg := y47 _ _ tg
    have O := O.same y47
    have kS := y47 _ _ kS
    have kP := y47 _ _ kP
    have PD := PD.same y47
    have B := B.same y47
    have c5 := y47 _ _ c5
    have c8 := y47 _ _ c8
    have c9 := y47 _ _ c9
    have d2 := y47 _ _ d2
    have d4 := y47 _ _ d4
    have d5 := y47 _ _ d5
    have d6 := y47 _ _ d6
    have d7 := y47 _ _ d7
    have d8 := y47 _ _ d8
    have d10 := y47 _ _ d10
    have e1 := y47 _ _ e1
    have e2 := y47 _ _ e2
    have e3 := y47 _ _ e3
    have e4 := y47 _ _ e4
    have e5 := y47 _ _ e5
    have e6 := y47 _ _ e6
    have e7 := y47 _ _ e7
    have e8 := y47 _ _ e8
    have e9 : hide M (upd G46 q47 (.lst [V.str t0])) q47 = some (.lst [V.str t0]) := hide_at n47 upd_same
    have P47 := P46.same (same_new (o := .lst [V.str t0]) hq47)
    have T47 := tr_same T46 (same_new (o := .lst [V.str t0]) hq47)
    have E47 := E46.trans (.of (same_new (o := .lst [V.str t0]) hq47))
    generalize upd G46 q47 (.lst [V.str t0]) = G47 at y47 P47 T47 E47 tg O kS kP PD B c5 c8 c9 d2 d4 d5 d6 d7 d8 d10 e1 e2 e3 e4 e5 e6 e7 e8 e9 ⊢
    clear y47 hq47 P46 E46 T46
    refine ⟨q47, (201 : Int), _, rfl, rfl, (hide_dv _ _ e9), by decide, by decide, by show 1 * 201 ≤ sizeLine; decide, fun q48 hq48 => ?_⟩
    have n48 : q48 ∉ M := fun z => T47 _ z hq48
    have y48 := hide_same (M := M) (same_new (o := .lst (List.replicate (201 : Int).toNat [V.str t0]).flatten) hq48)
    have tg := y48 _ _ tg
    have O := O.same y48
    have kS := y48 _ _ kS
    have kP := y48 _ _ kP
    have PD := PD.same y48
    have B := B.same y48
    have c5 := y48 _ _ c5
    have c8 := y48 _ _ c8
    have c9 := y48 _ _ c9
    have d2 := y48 _ _ d2
    have d4 := y48 _ _ d4
    have d5 := y48 _ _ d5
    have d6 := y48 _ _ d6
    have d7 := y48 _ _ d7
    have d8 := y48 _ _ d8
    have d10 := y48 _ _ d10
    have e1 := y48 _ _ e1
    have e2 := y48 _ _ e2
    have e3 := y48 _ _ e3
    have e4 := y48 _ _ e4
    have e5 := y48 _ _ e5
    have e6 := y48 _ _ e6
    have e7 := y48 _ _ e7
    have e8 := y48 _ _ e8
    have e9 := y48 _ _ e9
    have e10 : hide M (upd G47 q48 (.lst (List.replicate (201 : Int).toNat [V.str t0]).flatten)) q48 = some (.lst (List.replicate (201 : Int).toNat [V.str t0]).flatten) := hide_at n48 upd_same
    have P48 := P47.same (same_new (o := .lst (List.replicate (201 : Int).toNat [V.str t0]).flatten) hq48)
    have T48 := tr_same T47 (same_new (o := .lst (List.replicate (201 : Int).toNat [V.str t0]).flatten) hq48)
    have E48 := E47.trans (.of (same_new (o := .lst (List.replicate (201 : Int).toNat [V.str t0]).flatten) hq48))
    generalize upd G47 q48 (.lst (List.replicate (201 : Int).toNat [V.str t0]).flatten) = G48 at y48 P48 T48 E48 tg O kS kP PD B c5 c8 c9 d2 d4 d5 d6 d7 d8 d10 e1 e2 e3 e4 e5 e6 e7 e8 e9 e10 ⊢
    clear y48 hq48 P47 E47 T47
    refine ⟨by show 3 ≤ sizeLine; decide, fun q49 hq49 => ?_⟩
    have n49 : q49 ∉ M := fun z => T48 _ z hq49
    have y49 := hide_same (M := M) (same_new (o := .lst [V.ref q42, .ref q46, .ref q48]) hq49)
    have tg := y49 _ _ tg
    have O := O.same y49
    have kS := y49 _ _ kS
    have kP := y49 _ _ kP
    have PD := PD.same y49
    have B := B.same y49
    have c5 := y49 _ _ c5
    have c8 := y49 _ _ c8
    have c9 := y49 _ _ c9
    have d2 := y49 _ _ d2
    have d4 := y49 _ _ d4
    have d5 := y49 _ _ d5
    have d6 := y49 _ _ d6
    have d7 := y49 _ _ d7
    have d8 := y49 _ _ d8
    have d10 := y49 _ _ d10
    have e1 := y49 _ _ e1
    have e2 := y49 _ _ e2
    have e3 := y49 _ _ e3
    have e4 := y49 _ _ e4
    have e5 := y49 _ _ e5
    have e6 := y49 _ _ e6
    have e7 := y49 _ _ e7
    have e8 := y49 _ _ e8
    have e9 := y49 _ _ e9
    have e10 := y49 _ _ e10
    have e11 : hide M (upd G48 q49 (.lst [V.ref q42, .ref q46, .ref q48])) q49 = some (.lst [V.ref q42, .ref q46, .ref q48]) := hide_at n49 upd_same
    have P49 := P48.same (same_new (o := .lst [V.ref q42, .ref q46, .ref q48]) hq49)
    have T49 := tr_same T48 (same_new (o := .lst [V.ref q42, .ref q46, .ref q48]) hq49)
    have E49 := E48.trans (.of (same_new (o := .lst [V.ref q42, .ref q46, .ref q48]) hq49))
    generalize upd G48 q49 (.lst [V.ref q42, .ref q46, .ref q48]) = G49 at y49 P49 T49 E49 tg O kS kP PD B c5 c8 c9 d2 d4 d5 d6 d7 d8 d10 e1 e2 e3 e4 e5 e6 e7 e8 e9 e10 e11 ⊢
    clear y49 hq49 P48 E48 T48
    refine ⟨_, _, _, _, rfl, rfl, (hide_dv _ _ d10), (hide_dv _ _ e11), by show 19 ≤ sizeLine; decide, fun q50 hq50 => ?_⟩
    have n50 : q50 ∉ M := fun z => T49 _ z hq50
    have y50 := hide_same (M := M) (same_new (o := .lst ([V.str t0, ov, .ref sm, .ref q23, .ref a, .ref q26, .ref q27, .ref pr] ++ [V.ref q30, .ref q32, .ref q33, .ref q34, .ref q35, .non, .ref q36, .str tl] ++ [V.ref q42, .ref q46, .ref q48])) hq50)
    have tg := y50 _ _ tg
    have O := O.same y50
    have kS := y50 _ _ kS
    have kP := y50 _ _ kP
    have PD := PD.same y50
    have B := B.same y50
    have c5 := y50 _ _ c5
    have c8 := y50 _ _ c8
    have c9 := y50 _ _ c9
    have d2 := y50 _ _ d2
    have d4 := y50 _ _ d4
    have d5 := y50 _ _ d5
    have d6 := y50 _ _ d6
    have d7 := y50 _ _ d7
    have d8 := y50 _ _ d8
    have d10 := y50 _ _ d10
    have e1 := y50 _ _ e1
    have e2 := y50 _ _ e2
    have e3 := y50 _ _ e3
    have e4 := y50 _ _ e4
    have e5 := y50 _ _ e5
    have e6 := y50 _ _ e6
    have e7 := y50 _ _ e7
    have e8 := y50 _ _ e8
    have e9 := y50 _ _ e9
    have e10 := y50 _ _ e10
    have e11 := y50 _ _ e11
    have e12 : hide M (upd G49 q50 (.lst ([V.str t0, ov, .ref sm, .ref q23, .ref a, .ref q26, .ref q27, .ref pr] ++ [V.ref q30, .ref q32, .ref q33, .ref q34, .ref q35, .non, .ref q36, .str tl] ++ [V.ref q42, .ref q46, .ref q48]))) q50 = some (.lst ([V.str t0, ov, .ref sm, .ref q23, .ref a, .ref q26, .ref q27, .ref pr] ++ [V.ref q30, .ref q32, .ref q33, .ref q34, .ref q35, .non, .ref q36, .str tl] ++ [V.ref q42, .ref q46, .ref q48])) := hide_at n50 upd_same
    have P50 := P49.same (same_new (o := .lst ([V.str t0, ov, .ref sm, .ref q23, .ref a, .ref q26, .ref q27, .ref pr] ++ [V.ref q30, .ref q32, .ref q33, .ref q34, .ref q35, .non, .ref q36, .str tl] ++ [V.ref q42, .ref q46, .ref q48])) hq50)
    have T50 := tr_same T49 (same_new (o := .lst ([V.str t0, ov, .ref sm, .ref q23, .ref a, .ref q26, .ref q27, .ref pr] ++ [V.ref q30, .ref q32, .ref q33, .ref q34, .ref q35, .non, .ref q36, .str tl] ++ [V.ref q42, .ref q46, .ref q48])) hq50)
    have E50 := E49.trans (.of (same_new (o := .lst ([V.str t0, ov, .ref sm, .ref q23, .ref a, .ref q26, .ref q27, .ref pr] ++ [V.ref q30, .ref q32, .ref q33, .ref q34, .ref q35, .non, .ref q36, .str tl] ++ [V.ref q42, .ref q46, .ref q48])) hq50))
    generalize upd G49 q50 (.lst ([V.str t0, ov, .ref sm, .ref q23, .ref a, .ref q26, .ref q27, .ref pr] ++ [V.ref q30, .ref q32, .ref q33, .ref q34, .ref q35, .non, .ref q36, .str tl] ++ [V.ref q42, .ref q46, .ref q48])) = G50 at y50 P50 T50 E50 tg O kS kP PD B c5 c8 c9 d2 d4 d5 d6 d7 d8 d10 e1 e2 e3 e4 e5 e6 e7 e8 e9 e10 e11 e12 ⊢
    clear y50 hq50 P49 E49 T49
    clear d10 e1 e2 e3 e5 e6 e7 e9 e11
    refine ⟨_, rfl, _, rfl, p, 19, rfl, by decide, by decide, P50, fun r6 G51 hr6 x51 P51 => ?_⟩
    have y51 := hide_exc pM x51
    have tg := y51 _ _ tg
    have O := O.same y51
    have kS := y51 _ _ kS
    have kP := y51 _ _ kP
    have PD := PD.same y51
    have B := B.same y51
    have c5 := y51 _ _ c5
    have c8 := y51 _ _ c8
    have c9 := y51 _ _ c9
    have d2 := y51 _ _ d2
    have d4 := y51 _ _ d4
    have d5 := y51 _ _ d5
    have d6 := y51 _ _ d6
    have d7 := y51 _ _ d7
    have d8 := y51 _ _ d8
    have e4 := y51 _ _ e4
    have e8 := y51 _ _ e8
    have e10 := y51 _ _ e10
    have e12 := y51 _ _ e12
    have E51 := E50.trans x51
    have T51 := tr_exc T50 x51 P51
    clear y51 x51 P50 E50 T50
    have TW : SmL 54 2 (tags.map .str) := (word_sm (k := 2) to.names).mono (by omega) (by omega)
    have YW : SmL 27 2 (ys.map .str) := (word_sm (k := 2) (fun t ht => to.names t (hys t ht))).mono (by omega) (by omega)
    have PW : SmL 114 3 (tags.map (prD t0)) := (prs_sm (k := 1) nm0 to.names).mono (by omega) (by omega)
    have smO3 : Sm 20 3 odd := smO.mono (by omega) (by omega)
    have smB3 : Sm 60 3 bd := smB.mono (by omega) (by omega)
    have S0 : Dv (hide M G51) (.ref sm) (.list (ys.map .str)) := .lst kS (word_dv ys)
    have S1 : Dv (hide M G51) (.ref q23) (.list ((ys.map .str).take r4 ++ [odd] ++ (ys.map .str).drop r4)) := .lst c5 ((((word_dv ys).take r4).app (.cons O .nil)).app ((word_dv ys).drop r4))
    have S2 : Dv (hide M G51) (.ref q26) (.list ((tags.reverse ++ [t0]).map .str)) := .lst c8 (by
      have h := word_dv (H := hide M G51) (tags.reverse ++ [t0])
      rw [show vS (tags.reverse ++ [t0]) = (vS tags).reverse ++ [V.str t0] from by unfold vS; rw [List.map_append, List.map_reverse]; rfl] at h
      exact h)
    have S3 : Dv (hide M G51) (.ref q27) (.list ((ys ++ (ys ++ (ys ++ []))).map .str)) := .lst c9 (by
      have h := word_dv (H := hide M G51) (ys ++ (ys ++ (ys ++ [])))
      rw [show vS (ys ++ (ys ++ (ys ++ []))) = (List.replicate (3 : Int).toNat (vS ys)).flatten from by unfold vS; rw [List.map_append, List.map_append, List.map_append]; rfl] at h
      exact h)
    have all : ∀ v ∈ ([V.str t0, ov, .ref sm, .ref q23, .ref a, .ref q26, .ref q27, .ref pr] ++ [V.ref q30, .ref q32, .ref q33, .ref q34, .ref q35, .non, .ref q36, .str tl] ++ [V.ref q42, .ref q46, .ref q48]), ∃ d, Dv (hide M G51) v d ∧ Sm 2000 5 d :=
      any_cons (.str t0) ((name_sm (k := 1) nm0).mono (by omega) (by omega))
      (any_cons O (smO.mono (by omega) (by omega))
      (any_cons S0 (YW.list.mono (by omega) (by omega))
      (any_cons S1 ((YW.both r4 r4 (Nat.le_refl _) (SmL.cons (smO.mono (Nat.le_refl _) (by omega)) .nil)).list.mono (by omega) (by omega))
      (any_cons (.lst tg (word_dv tags)) (TW.list.mono (by omega) (by omega))
      (any_cons S2 ((word_sm (k := 2) (wd := tags.reverse ++ [t0]) (fun t ht => by
          rcases List.mem_append.mp ht with h | h
          · exact to.names t (List.mem_reverse.mp h)
          · exact List.mem_singleton.mp h ▸ nm0)).list.mono (by rw [List.length_append, List.length_reverse]; show 9 * (_ + 1) ≤ _; omega) (by omega))
      (any_cons S3 ((word_sm (k := 2) (wd := ys ++ (ys ++ (ys ++ []))) (fun t ht => by
          have : t ∈ ys := by
            simpa using ht
          exact to.names t (hys t this))).list.mono (by simp only [List.length_append, List.length_nil]; omega) (by omega))
      (any_cons (.lst kP PD) (PW.list.mono (by omega) (by omega))
      (any_cons (.lst d2 (PD.app (.cons B .nil))) ((PW.app (SmL.cons smB3 .nil)).list.mono (by omega) (by omega))
      (any_cons (.lst d4 (DvAll.app (.cons B .nil) PD)) (((SmL.cons smB3 .nil).app PW).list.mono (by omega) (by omega))
      (any_cons (.tup d5 PD) (PW.tuple.mono (by omega) (by omega))
      (any_cons (.tup d6 (word_dv tags)) (TW.tuple.mono (by omega) (by omega))
      (any_cons (.lst d7 .nil) ((SmL.nil (k := 0)).list.mono (by omega) (by omega))
      (any_cons .non ((sm_non (k := 0)).mono (by omega) (by omega))
      (any_cons (.lst d8 (.cons O (.cons O .nil))) ((SmL.cons smO (SmL.cons smO .nil)).list.mono (by omega) (by omega))
      (any_cons (.str tl) ((name_sm (k := 1) nml).mono (by omega) (by omega))
      (any_cons (.lst e4 ((PD.app (PD.take 1)).app (.cons B .nil))) (((PW.app (PW.take 1)).app (SmL.cons smB3 .nil)).list.mono (by omega) (by omega))
      (any_cons (.lst e8 (DvAll.app (.cons O .nil) (by rw [flat_one]; exact DvAll.rep (.str t0) _))) (((SmL.cons smO (sm_rep (name_sm (k := 1) nm0) (8 : Int).toNat)).list).mono (by decide) (by omega))
      (any_cons (.lst e10 (by rw [flat_one]; exact DvAll.rep (.str t0) _)) ((sm_rep (name_sm (k := 1) nm0) (201 : Int).toNat).list.mono (by decide) (by omega)) any_nil))))))))))))))))))
    obtain ⟨y, hy, dy, Y, smY⟩ := pick (r := r6) (by exact hr6) all
    clear all S0 S1 S2 S3
    refine ⟨q50, _, _, y, rfl, rfl, SqL.of (hide_dv _ _ e12), atI_nat hy, ?_⟩
    clear kS c5 c8 c9 kP d2 d4 d5 d6 d7 d8 e4 e8 e10 e12 B
    clear PD
    refine ⟨_, _, rfl, rfl, by show 1 ≤ sizeLine; decide, fun q52 hq52 => ?_⟩
    have n52 : q52 ∉ M := fun z => T51 _ z hq52
    have y52 := hide_same (M := M) (same_new (o := .lst [V.int 1]) hq52)
    have tg := y52 _ _ tg
    have O := O.same y52
    have Y := Y.same y52
    have f1 : hide M (upd G51 q52 (.lst [V.int 1])) q52 = some (.lst [V.int 1]) := hide_at n52 upd_same
    have P52 := P51.same (same_new (o := .lst [V.int 1]) hq52)
    have T52 := tr_same T51 (same_new (o := .lst [V.int 1]) hq52)
    have E52 := E51.trans (.of (same_new (o := .lst [V.int 1]) hq52))
    generalize upd G51 q52 (.lst [V.int 1]) = G52 at y52 P52 T52 E52 tg O Y f1 ⊢
    clear y52 hq52 P51 E51 T51
    refine ⟨_, _, rfl, rfl, ⟨by decide, by decide, by decide⟩, by show 12 ≤ sizeLine; decide, fun q53 hq53 => ?_⟩
    have n53 : q53 ∉ M := fun z => T52 _ z hq53
    have y53 := hide_same (M := M) (same_new (o := .lst [V.int 0, .int 20, .int 21, .int (0 - 1), .non, .bl true, .str "1", .ref q52, .int (10 ^ (20 : Int).toNat), .bl false, .int 3, .int 1]) hq53)
    have tg := y53 _ _ tg
    have O := O.same y53
    have Y := Y.same y53
    have f1 := y53 _ _ f1
    have f2 : hide M (upd G52 q53 (.lst [V.int 0, .int 20, .int 21, .int (0 - 1), .non, .bl true, .str "1", .ref q52, .int (10 ^ (20 : Int).toNat), .bl false, .int 3, .int 1])) q53 = some (.lst [V.int 0, .int 20, .int 21, .int (0 - 1), .non, .bl true, .str "1", .ref q52, .int (10 ^ (20 : Int).toNat), .bl false, .int 3, .int 1]) := hide_at n53 upd_same
    have P53 := P52.same (same_new (o := .lst [V.int 0, .int 20, .int 21, .int (0 - 1), .non, .bl true, .str "1", .ref q52, .int (10 ^ (20 : Int).toNat), .bl false, .int 3, .int 1]) hq53)
    have T53 := tr_same T52 (same_new (o := .lst [V.int 0, .int 20, .int 21, .int (0 - 1), .non, .bl true, .str "1", .ref q52, .int (10 ^ (20 : Int).toNat), .bl false, .int 3, .int 1]) hq53)
    have E53 := E52.trans (.of (same_new (o := .lst [V.int 0, .int 20, .int 21, .int (0 - 1), .non, .bl true, .str "1", .ref q52, .int (10 ^ (20 : Int).toNat), .bl false, .int 3, .int 1]) hq53))
    generalize upd G52 q53 (.lst [V.int 0, .int 20, .int 21, .int (0 - 1), .non, .bl true, .str "1", .ref q52, .int (10 ^ (20 : Int).toNat), .bl false, .int 3, .int 1]) = G53 at y53 P53 T53 E53 tg O Y f1 f2 ⊢
    clear y53 hq53 P52 E52 T52
    refine ⟨_, rfl, p, 12, rfl, by decide, by decide, P53, fun r7 G54 hr7 x54 P54 => ?_⟩
    have y54 := hide_exc pM x54
    have tg := y54 _ _ tg
    have O := O.same y54
    have Y := Y.same y54
    have f1 := y54 _ _ f1
    have f2 := y54 _ _ f2
    have E54 := E53.trans x54
    have T54 := tr_exc T53 x54 P54
    clear y54 x54 P53 E53 T53
    have all : ∀ v ∈ [V.int 0, .int 20, .int 21, .int (0 - 1), .non, .bl true, .str "1", .ref q52, .int (10 ^ (20 : Int).toNat), .bl false, .int 3, .int 1], ∃ d, Dv (hide M G54) v d ∧ Sm 2000 5 d :=
      any_cons (.int 0) ((sm_nat (k := 1) (i := 0) (by omega)).mono (by omega) (by omega))
      (any_cons (.int 20) ((sm_nat (k := 1) (i := 20) (by omega)).mono (by omega) (by omega))
      (any_cons (.int 21) ((sm_nat (k := 1) (i := 21) (by omega)).mono (by omega) (by omega))
      (any_cons (.int _) (sm_less.mono (by omega) (by omega))
      (any_cons .non ((sm_non (k := 0)).mono (by omega) (by omega))
      (any_cons (.bl true) ((sm_bl (k := 0) true).mono (by omega) (by omega))
      (any_cons (.str _) (sm_str (by decide +kernel) (by decide +kernel))
      (any_cons (.lst f1 (.cons (.int 1) .nil)) ((SmL.cons (k := 0) (sm_nat (i := 1) (by omega)) .nil).list.mono (by omega) (by omega))
      (any_cons (.int _) (sm_great.mono (by omega) (by omega))
      (any_cons (.bl false) ((sm_bl (k := 0) false).mono (by omega) (by omega))
      (any_cons (.int 3) ((sm_nat (k := 1) (i := 3) (by omega)).mono (by omega) (by omega))
      (any_cons (.int 1) ((sm_nat (k := 1) (i := 1) (by omega)).mono (by omega) (by omega)) any_nil)))))))))))
    obtain ⟨z, hz, dz, Z, smZ⟩ := pick (r := r7) (by exact hr7) all
    clear all
    refine ⟨q53, _, _, z, rfl, rfl, SqL.of (hide_dv _ _ f2), atI_nat hz, ?_⟩
    clear f1 f2
    refine ⟨_, rfl, _, rfl, _, rfl, _, rfl, _, rfl, _, _, rfl, .inl ⟨SqL.of (hide_dv _ _ tg), fun q55 hq55 => ?_⟩⟩
    have n55 : q55 ∉ M := fun z => T54 _ z hq55
    have y55 := hide_same (M := M) (same_new (o := .tup (vS tags)) hq55)
    have tg := y55 _ _ tg
    have O := O.same y55
    have Y := Y.same y55
    have Z := Z.same y55
    have g1 : hide M (upd G54 q55 (.tup (vS tags))) q55 = some (.tup (vS tags)) := hide_at n55 upd_same
    have P55 := P54.same (same_new (o := .tup (vS tags)) hq55)
    have T55 := tr_same T54 (same_new (o := .tup (vS tags)) hq55)
    have E55 := E54.trans (.of (same_new (o := .tup (vS tags)) hq55))
    generalize upd G54 q55 (.tup (vS tags)) = G55 at y55 P55 T55 E55 tg O Y Z g1 ⊢
    clear y55 hq55 P54 E54 T54
    refine ⟨by show 0 ≤ sizeLine; decide, fun q56 hq56 => ?_⟩
    have n56 : q56 ∉ M := fun z => T55 _ z hq56
    have y56 := hide_same (M := M) (same_new (o := .lst []) hq56)
    have tg := y56 _ _ tg
    have O := O.same y56
    have Y := Y.same y56
    have Z := Z.same y56
    have g1 := y56 _ _ g1
    have g2 : hide M (upd G55 q56 (.lst [])) q56 = some (.lst []) := hide_at n56 upd_same
    have P56 := P55.same (same_new (o := .lst []) hq56)
    have T56 := tr_same T55 (same_new (o := .lst []) hq56)
    have E56 := E55.trans (.of (same_new (o := .lst []) hq56))
    generalize upd G55 q56 (.lst []) = G56 at y56 P56 T56 E56 tg O Y Z g1 g2 ⊢
    clear y56 hq56 P55 E55 T55
    refine ⟨_, rfl, _, rfl, by show 1 ≤ sizeLine; decide, fun q57 hq57 => ?_⟩
    have n57 : q57 ∉ M := fun z => T56 _ z hq57
    have y57 := hide_same (M := M) (same_new (o := .lst [ov]) hq57)
    have tg := y57 _ _ tg
    have O := O.same y57
    have Y := Y.same y57
    have Z := Z.same y57
    have g1 := y57 _ _ g1
    have g2 := y57 _ _ g2
    have g3 : hide M (upd G56 q57 (.lst [ov])) q57 = some (.lst [ov]) := hide_at n57 upd_same
    have P57 := P56.same (same_new (o := .lst [ov]) hq57)
    have T57 := tr_same T56 (same_new (o := .lst [ov]) hq57)
    have E57 := E56.trans (.of (same_new (o := .lst [ov]) hq57))
    generalize upd G56 q57 (.lst [ov]) = G57 at y57 P57 T57 E57 tg O Y Z g1 g2 g3 ⊢
    clear y57 hq57 P56 E56 T56
    refine ⟨_, _, _, _, rfl, rfl, (hide_dv _ _ tg), (hide_dv _ _ g3), by simp only [List.length_append, List.length_take, List.length_drop, List.length_cons, List.length_nil, List.length_reverse, vS_len, List.length_map]; exact sz_le (by omega), fun q58 hq58 => ?_⟩
    have n58 : q58 ∉ M := fun z => T57 _ z hq58
    have y58 := hide_same (M := M) (same_new (o := .lst (vS tags ++ [ov])) hq58)
    have tg := y58 _ _ tg
    have O := O.same y58
    have Y := Y.same y58
    have Z := Z.same y58
    have g1 := y58 _ _ g1
    have g2 := y58 _ _ g2
    have g3 := y58 _ _ g3
    have g4 : hide M (upd G57 q58 (.lst (vS tags ++ [ov]))) q58 = some (.lst (vS tags ++ [ov])) := hide_at n58 upd_same
    have P58 := P57.same (same_new (o := .lst (vS tags ++ [ov])) hq58)
    have T58 := tr_same T57 (same_new (o := .lst (vS tags ++ [ov])) hq58)
    have E58 := E57.trans (.of (same_new (o := .lst (vS tags ++ [ov])) hq58))
    generalize upd G57 q58 (.lst (vS tags ++ [ov])) = G58 at y58 P58 T58 E58 tg O Y Z g1 g2 g3 g4 ⊢
    clear y58 hq58 P57 E57 T57
    refine ⟨_, rfl, _, rfl, _, rfl, a, _, rfl, SqL.of (hide_dv _ _ tg), fun q59 hq59 => ?_⟩
    first | rw [cut_take, tk1] | rw [show (1 : Int) = ((1 : Nat) : Int) from rfl, cut_take, tk1]
    have n59 : q59 ∉ M := fun z => T58 _ z hq59
    have y59 := hide_same (M := M) (same_new (o := .lst [V.str t0]) hq59)
    have tg := y59 _ _ tg
    have O := O.same y59
    have Y := Y.same y59
    have Z := Z.same y59
    have g1 := y59 _ _ g1
    have g2 := y59 _ _ g2
    have g3 := y59 _ _ g3
    have g4 := y59 _ _ g4
    have g5 : hide M (upd G58 q59 (.lst [V.str t0])) q59 = some (.lst [V.str t0]) := hide_at n59 upd_same
    have P59 := P58.same (same_new (o := .lst [V.str t0]) hq59)
    have T59 := tr_same T58 (same_new (o := .lst [V.str t0]) hq59)
    have E59 := E58.trans (.of (same_new (o := .lst [V.str t0]) hq59))
    generalize upd G58 q59 (.lst [V.str t0]) = G59 at y59 P59 T59 E59 tg O Y Z g1 g2 g3 g4 g5 ⊢
    clear y59 hq59 P58 E58 T58
    refine ⟨_, _, _, _, rfl, rfl, (hide_dv _ _ tg), (hide_dv _ _ g5), by simp only [List.length_append, List.length_take, List.length_drop, List.length_cons, List.length_nil, List.length_reverse, vS_len, List.length_map]; exact sz_le (by omega), fun q60 hq60 => ?_⟩
    have n60 : q60 ∉ M := fun z => T59 _ z hq60
    have y60 := hide_same (M := M) (same_new (o := .lst (vS tags ++ [V.str t0])) hq60)
    have tg := y60 _ _ tg
    have O := O.same y60
    have Y := Y.same y60
    have Z := Z.same y60
    have g1 := y60 _ _ g1
    have g2 := y60 _ _ g2
    have g3 := y60 _ _ g3
    have g4 := y60 _ _ g4
    have g5 := y60 _ _ g5
    have g6 : hide M (upd G59 q60 (.lst (vS tags ++ [V.str t0]))) q60 = some (.lst (vS tags ++ [V.str t0])) := hide_at n60 upd_same
    have P60 := P59.same (same_new (o := .lst (vS tags ++ [V.str t0])) hq60)
    have T60 := tr_same T59 (same_new (o := .lst (vS tags ++ [V.str t0])) hq60)
    have E60 := E59.trans (.of (same_new (o := .lst (vS tags ++ [V.str t0])) hq60))
    generalize upd G59 q60 (.lst (vS tags ++ [V.str t0])) = G60 at y60 P60 T60 E60 tg O Y Z g1 g2 g3 g4 g5 g6 ⊢
    clear y60 hq60 P59 E59 T59
    refine ⟨_, rfl, by decide +kernel, fun q61 hq61 => ?_⟩
    rw [show sgn (Str.ofString "abcdefg") = [V.str "a", V.str "b", V.str "c", V.str "d", V.str "e", V.str "f", V.str "g"] from by decide +kernel]
    have n61 : q61 ∉ M := fun z => T60 _ z hq61
    have y61 := hide_same (M := M) (same_new (o := .lst [V.str "a", V.str "b", V.str "c", V.str "d", V.str "e", V.str "f", V.str "g"]) hq61)
    have tg := y61 _ _ tg
    have O := O.same y61
    have Y := Y.same y61
    have Z := Z.same y61
    have g1 := y61 _ _ g1
    have g2 := y61 _ _ g2
    have g3 := y61 _ _ g3
    have g4 := y61 _ _ g4
    have g5 := y61 _ _ g5
    have g6 := y61 _ _ g6
    have g7 : hide M (upd G60 q61 (.lst [V.str "a", V.str "b", V.str "c", V.str "d", V.str "e", V.str "f", V.str "g"])) q61 = some (.lst [V.str "a", V.str "b", V.str "c", V.str "d", V.str "e", V.str "f", V.str "g"]) := hide_at n61 upd_same
    have P61 := P60.same (same_new (o := .lst [V.str "a", V.str "b", V.str "c", V.str "d", V.str "e", V.str "f", V.str "g"]) hq61)
    have T61 := tr_same T60 (same_new (o := .lst [V.str "a", V.str "b", V.str "c", V.str "d", V.str "e", V.str "f", V.str "g"]) hq61)
    have E61 := E60.trans (.of (same_new (o := .lst [V.str "a", V.str "b", V.str "c", V.str "d", V.str "e", V.str "f", V.str "g"]) hq61))
    generalize upd G60 q61 (.lst [V.str "a", V.str "b", V.str "c", V.str "d", V.str "e", V.str "f", V.str "g"]) = G61 at y61 P61 T61 E61 tg O Y Z g1 g2 g3 g4 g5 g6 g7 ⊢
    clear y61 hq61 P60 E60 T60
    refine ⟨by show 10 ≤ sizeLine; decide, fun q62 hq62 => ?_⟩
    have n62 : q62 ∉ M := fun z => T61 _ z hq62
    have y62 := hide_same (M := M) (same_new (o := .lst [V.ref a, .ref a, .ref a, .ref a, .ref q55, .ref q56, .ref q58, .ref q60, .non, .ref q61]) hq62)
    have tg := y62 _ _ tg
    have O := O.same y62
    have Y := Y.same y62
    have Z := Z.same y62
    have g1 := y62 _ _ g1
    have g2 := y62 _ _ g2
    have g3 := y62 _ _ g3
    have g4 := y62 _ _ g4
    have g5 := y62 _ _ g5
    have g6 := y62 _ _ g6
    have g7 := y62 _ _ g7
    have g8 : hide M (upd G61 q62 (.lst [V.ref a, .ref a, .ref a, .ref a, .ref q55, .ref q56, .ref q58, .ref q60, .non, .ref q61])) q62 = some (.lst [V.ref a, .ref a, .ref a, .ref a, .ref q55, .ref q56, .ref q58, .ref q60, .non, .ref q61]) := hide_at n62 upd_same
    have P62 := P61.same (same_new (o := .lst [V.ref a, .ref a, .ref a, .ref a, .ref q55, .ref q56, .ref q58, .ref q60, .non, .ref q61]) hq62)
    have T62 := tr_same T61 (same_new (o := .lst [V.ref a, .ref a, .ref a, .ref a, .ref q55, .ref q56, .ref q58, .ref q60, .non, .ref q61]) hq62)
    have E62 := E61.trans (.of (same_new (o := .lst [V.ref a, .ref a, .ref a, .ref a, .ref q55, .ref q56, .ref q58, .ref q60, .non, .ref q61]) hq62))
    generalize upd G61 q62 (.lst [V.ref a, .ref a, .ref a, .ref a, .ref q55, .ref q56, .ref q58, .ref q60, .non, .ref q61]) = G62 at y62 P62 T62 E62 tg O Y Z g1 g2 g3 g4 g5 g6 g7 g8 ⊢
    clear y62 hq62 P61 E61 T61
    refine ⟨_, rfl, _, rfl, p, 10, rfl, by decide, by decide, P62, fun r8 G63 hr8 x63 P63 => ?_⟩
    have y63 := hide_exc pM x63
    have tg := y63 _ _ tg
    have O := O.same y63
    have Y := Y.same y63
    have Z := Z.same y63
    have g1 := y63 _ _ g1
    have g2 := y63 _ _ g2
    have g3 := y63 _ _ g3
    have g4 := y63 _ _ g4
    have g5 := y63 _ _ g5
    have g6 := y63 _ _ g6
    have g7 := y63 _ _ g7
    have g8 := y63 _ _ g8
    have E63 := E62.trans x63
    have T63 := tr_exc T62 x63 P63
    clear y63 x63 P62 E62 T62
    have all : ∀ v ∈ [V.ref a, .ref a, .ref a, .ref a, .ref q55, .ref q56, .ref q58, .ref q60, .non, .ref q61], ∃ d, Dv (hide M G63) v d ∧ Sm 2000 5 d :=
      any_cons (.lst tg (word_dv tags)) (TW.list.mono (by omega) (by omega))
      (any_cons (.lst tg (word_dv tags)) (TW.list.mono (by omega) (by omega))
      (any_cons (.lst tg (word_dv tags)) (TW.list.mono (by omega) (by omega))
      (any_cons (.lst tg (word_dv tags)) (TW.list.mono (by omega) (by omega))
      (any_cons (.tup g1 (word_dv tags)) (TW.tuple.mono (by omega) (by omega))
      (any_cons (.lst g2 .nil) ((SmL.nil (k := 0)).list.mono (by omega) (by omega))
      (any_cons (.lst g4 ((word_dv tags).app (.cons O .nil))) ((TW.app (SmL.cons (smO.mono (Nat.le_refl _) (by omega)) .nil)).list.mono (by omega) (by omega))
      (any_cons (.lst g6 ((word_dv tags).app (.cons (.str t0) .nil))) ((TW.app (SmL.cons (name_sm nm0) .nil)).list.mono (by omega) (by omega))
      (any_cons .non ((sm_non (k := 0)).mono (by omega) (by omega))
      (any_cons (.lst g7 (.cons (.str _) (.cons (.str _) (.cons (.str _) (.cons (.str _) (.cons (.str _) (.cons (.str _) (.cons (.str _) .nil)))))))) ((show SmL _ 0 _ from (SmL.cons (m := 1) (sm_str (by decide +kernel) (by decide +kernel)) (SmL.cons (m := 1) (sm_str (by decide +kernel) (by decide +kernel)) (SmL.cons (m := 1) (sm_str (by decide +kernel) (by decide +kernel)) (SmL.cons (m := 1) (sm_str (by decide +kernel) (by decide +kernel)) (SmL.cons (m := 1) (sm_str (by decide +kernel) (by decide +kernel)) (SmL.cons (m := 1) (sm_str (by decide +kernel) (by decide +kernel)) (SmL.cons (m := 1) (sm_str (by decide +kernel) (by decide +kernel)) SmL.nil)))))))).list.mono (by omega) (by omega)) any_nil)))))))))
    obtain ⟨v, hv, dv, V_, smV⟩ := pick (r := r8) (by exact hr8) all
    clear all
    refine ⟨q62, _, _, v, rfl, rfl, SqL.of (hide_dv _ _ g8), atI_nat hv, ?_⟩
    clear g1 g2 g3 g4 g5 g6 g7 g8 O tg
    refine ⟨_, rfl, _, rfl, by show 3 ≤ sizeLine; decide, fun q64 hq64 => ?_⟩
    have n64 : q64 ∉ M := fun z => T63 _ z hq64
    have y64 := hide_same (M := M) (same_new (o := .tup [v, y, z]) hq64)
    have Y := Y.same y64
    have Z := Z.same y64
    have V_ := V_.same y64
    have tt : hide M (upd G63 q64 (.tup [v, y, z])) q64 = some (.tup [v, y, z]) := hide_at n64 upd_same
    have P64 := P63.same (same_new (o := .tup [v, y, z]) hq64)
    have T64 := tr_same T63 (same_new (o := .tup [v, y, z]) hq64)
    have E64 := E63.trans (.of (same_new (o := .tup [v, y, z]) hq64))
    generalize upd G63 q64 (.tup [v, y, z]) = G64 at y64 P64 T64 E64 Y Z V_ tt ⊢
    clear y64 hq64 P63 E63 T63
    rw [hM] at tt V_ Y Z
    exact q q64 v y z dv dy dz G64 E64 P64 (hide_dv _ _ tt) (V_.same hide_dv) (Y.same hide_dv) (Z.same hide_dv) smV smY smZ
end
end Law
end

section
set_option Elab.async false
set_option linter.all false
set_option maxRecDepth 100000
set_option maxHeartbeats 8000000
namespace Law
open PySem PySem.Spec PyProof.Rows L2 LamX QB QM QV
section
variable {P : Program} {w : World} {K : PySem.W.Frag} {mg : Str → Option Value} {base : Heap}
theorem PileAt.ext {T : List (Addr × Str)} {H H' : Hp} {p : Addr} (h : PileAt H p) (x : QB.Ext T H H') : PileAt H' p := by
  obtain ⟨d, c, n, h⟩ := h
  exact ⟨d, c, n, x.get h (fun _ z => nomatch z)⟩
def spLaw (K : PySem.W.Frag) (T : List (Addr × Str)) : Sp := fun vs H Q _ => ∃ (l : Addr) (ns : List Int), vs = [.ref l] ∧ SqL K H l (ns.map V.int) ∧ Tabs T H ∧ ∀ H', Q (.bl true) H'
theorem ok_law (X : TX K mg) (TB : LamX.TabB base mg X.lam_c X.lam_P) (hB : ∃ mm, base.Ns sysModules mm) (hc : Room 11 callerA) : QT.RunG P w K mg base CX0 X.d_law.a X.d_law.fd "script" (spLaw K (Tof X)) := by
  have nd := sc_law.nd
  refine QT.run_ofG X.d_law.F sc_law hc (fun vs H Q E h => ?_) (fun cdv s0 H vs Q E hr h => ?_)
  · obtain ⟨l, ns, rfl, _⟩ := h
    rfl
  · obtain ⟨l, ns, rfl, hl, tb, q⟩ := h
    have hg := QT.guards0 (env := envOfC "law" (defScope s_law) s0.heap.objs.size X.d_law.a cdv)
    refine ⟨_, (pss_cons (ps_for PassesOwn.never rfl (pi_range1 (by rfl) X.n_range (pa_cons pe_int pa_nil)) (pg_name (i := 1) nd rfl (Or.inl rfl)) (pss_cons (ps_set (i := 2) nd rfl (Or.inl rfl) (pe_call (ok__law_pile X) (hr.mono (by decide)) rfl X.d__law_pile.mg X.d__law_pile.F.kp X.d__law_pile.b .nil pass0 (pa_cons (pv 0) (pa_cons (pv 1) pa_nil)))) (pss_cons (ps_set (i := 3) nd rfl (Or.inl rfl) (pe_call (ok__law_tags X) (hr.mono (by decide)) rfl X.d__law_tags.mg X.d__law_tags.F.kp X.d__law_tags.b .nil pass0 (pa_cons (pv 2) (pa_cons (pe_op op_add pe_int (pe_call (ok__law_take X) (hr.mono (by decide)) rfl X.d__law_take.mg X.d__law_take.F.kp X.d__law_take.b .nil pass0 (pa_cons (pv 2) (pa_cons pe_int pa_nil)))) pa_nil)))) (pss_one (ps_for PassesOwn.never rfl (pi_range1 (by rfl) X.n_range (pa_cons pe_int pa_nil)) (pg_name (i := 4) nd rfl (Or.inl rfl)) (pss_cons (ps_asg (pe_call (ok__law_things X) (hr.mono (by decide)) rfl X.d__law_things.mg X.d__law_things.F.kp X.d__law_things.b .nil pass0 (pa_cons (pv 2) (pa_cons (pv 3) pa_nil))) (pg_tup (by rfl) (pgs_cons (pg_name (i := 5) nd rfl (Or.inl rfl)) (pgs_cons (pg_name (i := 6) nd rfl (Or.inl rfl)) (pgs_cons (pg_name (i := 7) nd rfl (Or.inl rfl)) (pgs_nil)))))) (pss_cons (ps_set (i := 8) nd rfl (Or.inl rfl) (pe_callB (QV.call_reprV hg hr.units hB) (by rfl) X.n_repr QV.bo_repr (pa_cons (pe_lst (pa_cons (pv 5) (pa_cons (pv 6) (pa_cons (pv 7) pa_nil)))) pa_nil))) (pss_one (ps_for PassesOwn.never rfl (pi_range1 (by rfl) X.n_range (pa_cons pe_int pa_nil)) (pg_name (i := 9) nd rfl (Or.inl rfl)) (pss_cons (ps_set (i := 10) nd rfl (Or.inl rfl) (pe_call (ok__law_due X) (hr.mono (by decide)) rfl X.d__law_due.mg X.d__law_due.F.kp X.d__law_due.b .nil pass0 (pa_cons (pv 9) (pa_cons (pv 5) (pa_cons (pv 6) (pa_cons (pv 7) pa_nil)))))) (pss_one (ps_if (PW.pt (pw_or (pt_cmpR op_ne (pe_callB (QV.call_reprV hg hr.units hB) (by rfl) X.n_repr QV.bo_repr (pa_cons (pe_call (ok__law_told X TB) (hr.mono (by decide)) rfl X.d__law_told.mg X.d__law_told.F.kp X.d__law_told.b .nil pass0 (pa_cons (pv 9) (pa_cons (pv 5) (pa_cons (pv 6) (pa_cons (pv 7) pa_nil))))) pa_nil)) (pe_callB (QV.call_reprV hg hr.units hB) (by rfl) X.n_repr QV.bo_repr (pa_cons (pv 10) pa_nil)) (nomark _)) (pw_or1 (pt_cmpR op_ne (pe_callB (QV.call_reprV hg hr.units hB) (by rfl) X.n_repr QV.bo_repr (pa_cons (pe_lst (pa_cons (pv 5) (pa_cons (pv 6) (pa_cons (pv 7) pa_nil)))) pa_nil)) (pv 8) (nomark _))))) (pss_one (ps_ret pe_bl)) pss_nil)))))))))))) (pss_one (ps_ret pe_bl))), ?_⟩
    try dsimp only [Cx.nox, Cx.wish, cxOf]
    clear hg
    refine ⟨(6 : Int), rfl, by decide, by decide, ?_⟩
    refine for_it (walk_range (lo := 0) (n := 6)) (fun i σ H' => ∃ v1 v2 v3 v4 v5 v6 v7 v8 v9 v10 : Option V, σ = [some (.ref l), v1, v2, v3, v4, v5, v6, v7, v8, v9, v10] ∧ QB.Ext (Tof X) H H')
      ⟨none, none, none, none, none, none, none, none, none, none, rfl, .refl⟩ (fun _ _ _ _ _ => True.intro) ?_ ?_
    · rintro i x σ H1 H2 hi ⟨v1, v2, v3, v4, v5, v6, v7, v8, v9, v10, rfl, e1⟩ ⟨rfl, rfl⟩
      refine ⟨_, rfl, _, rfl, ?_⟩
      refine ⟨l, ns, 0 + i, rfl, e1.sqL hl, fun p G0 s0' np P0 => ?_⟩
      have e0 := e1.trans (.of s0')
      have fp : Fresh H p := e1.fresh (.of np)
      clear s0' np e1
      refine ⟨_, rfl, _, rfl, ?_⟩
      refine ⟨p, 4, rfl, by decide, by decide, P0, fun r G1 hr x1 P1 => ?_⟩
      have e1 := extExc e0 x1 fp P0
      refine ⟨_, _, rfl, rfl, ?_⟩
      refine ⟨p, 1 + r, rfl, by omega, by omega, P1, fun tags a G2 to tl x2 P2 na wa => ?_⟩
      have e2 := extExc e1 x2 fp P1
      clear x1 x2 P0 P1 e0 e1 na
      refine ⟨(14 : Int), rfl, by decide, by decide, ?_⟩
      refine for_it (walk_range (lo := 0) (n := 14)) (fun j σ H' => ∃ v4 v5 v6 v7 v8 v9 v10 : Option V, σ = [some (.ref l), some (.int (0 + (i : Int))), some (.ref p), some (.ref a), v4, v5, v6, v7, v8, v9, v10] ∧ QB.Ext (Tof X) H H' ∧ PileAt H' p ∧ WordAt H' a tags)
        ⟨_, _, _, _, _, _, _, rfl, e2, P2, wa⟩ (fun _ _ _ _ _ => True.intro) ?_ ?_
      · clear e2 P2 wa v4 v5 v6 v7 v8 v9 v10
        rintro j x σ H3 H4 hj ⟨v4, v5, v6, v7, v8, v9, v10, rfl, e3, P3, w3⟩ ⟨rfl, rfl⟩
        refine ⟨_, rfl, _, rfl, ?_⟩
        refine ⟨p, a, tags, rfl, P3, w3, to, fun tq v y z dv dy dz G4 x4 P4 ht hv hy hz sv sy sz => ?_⟩
        have e4 := extExc e3 x4 fp P3
        have w4 := wordExc x4 (P3.word w3) w3
        clear x4 e3 P3 w3
        refine ⟨tq, _, rfl, SqT.of ht, rfl, _, _, rfl, _, _, rfl, _, _, rfl, rfl, ?_⟩
        have sh : Shows (.list [dv, dy, dz]) := Sm.shows ((SmL.cons sv (SmL.cons sy (SmL.cons sz .nil))).list.mono (by omega) (by omega))
        have wv := sv.w
        have wy := sy.w
        refine ⟨_, rfl, _, rfl, _, rfl, by show 3 ≤ sizeLine; decide, fun q1 hq1 => ?_⟩
        have s1 := same_new (o := .lst [v, y, z]) hq1
        refine ⟨.ref q1, .list [dv, dy, dz], q1, rfl, rfl, .lst upd_same (.cons (hv.same s1) (.cons (hy.same s1) (.cons (hz.same s1) .nil))), sh, ?_⟩
        have e5 := e4.trans (.of s1)
        have P5 := P4.same s1
        have w5 := Same.word s1 w4
        have hv := hv.same s1
        have hy := hy.same s1
        have hz := hz.same s1
        generalize upd G4 q1 (.lst [v, y, z]) = G5 at s1 e5 P5 w5 hv hy hz ⊢
        clear s1 e4 P4 w4 ht hq1
        obtain ⟨text, htext⟩ : ∃ t, t = PyData.shown (PyData.list [dv, dy, dz]) := ⟨_, rfl⟩
        rw [← htext]
        refine ⟨(6 : Int), rfl, by decide, by decide, ?_⟩
        refine for_it (walk_range (lo := 0) (n := 6)) (fun m σ H' => ∃ v9 v10 : Option V, σ = [some (.ref l), some (.int (0 + (i : Int))), some (.ref p), some (.ref a), some (.int (0 + (j : Int))), some v, some y, some z, some (.str text), v9, v10] ∧ QB.Ext (Tof X) G5 H')
          ⟨_, _, rfl, .refl⟩ (fun _ _ _ _ _ => True.intro) ?_ ?_
        · clear v4 v5 v6 v7 v8 v9 v10
          rintro m x σ H5 H6 hm ⟨v9, v10, rfl, e6⟩ ⟨rfl, rfl⟩
          refine ⟨_, rfl, _, rfl, _, rfl, _, rfl, m, v, y, z, dv, dy, dz, by show [V.int (0 + (m : Int)), v, y, z] = _; rw [Int.zero_add], by omega, hv.ext e6, hy.ext e6, hz.ext e6, by omega, by omega, fun pd H7 s7 k7 => ?_⟩
          have e7 := e6.trans (.of s7)
          have tb7 : Tabs (Tof X) H7 := (e5.trans e7).2 tb
          refine ⟨_, rfl, _, rfl, _, rfl, _, rfl, m, v, y, z, dv, dy, dz, by show [V.int (0 + (m : Int)), v, y, z] = _; rw [Int.zero_add], by omega, hv.ext e7, hy.ext e7, hz.ext e7, by omega, by omega, tb7, fun pt H8 e8 t8 k8 => ?_⟩
          obtain ⟨D, smD, mk⟩ := due_data (way := m) (dv := dv) (y := y) (z := z) sy sz
          have e9 := e7.trans e8
          have shD : Shows D := Sm.shows (smD.mono (by omega) (by omega))
          refine ⟨.ref pt, D, pt, rfl, rfl, mk _ _ (hy.ext e9) (hz.ext e9) k8, shD, ?_⟩
          refine ⟨_, rfl, .ref pd, D, pd, rfl, rfl, mk _ _ (hy.ext e9) (hz.ext e9) (e8.get k7 (fun _ z => nomatch z)), shD, ?_⟩
          generalize PyData.shown D = tD
          refine ⟨rfl, _, rfl, ?_⟩
          rw [decide_eq_true (show V.str tD = V.str tD from rfl)]
          refine iteF ?_
          refine ⟨_, rfl, _, rfl, _, rfl, by show 3 ≤ sizeLine; decide, fun q2 hq2 => ?_⟩
          have s2 := same_new (o := .lst [v, y, z]) hq2
          refine ⟨.ref q2, .list [dv, dy, dz], q2, rfl, rfl, .lst upd_same (.cons ((hv.ext e9).same s2) (.cons ((hy.ext e9).same s2) (.cons ((hz.ext e9).same s2) .nil))), sh, ?_⟩
          rw [← htext]
          refine ⟨_, rfl, rfl, _, rfl, ?_⟩
          rw [decide_eq_true (show V.str text = V.str text from rfl)]
          refine iteF ?_
          exact ⟨_, _, rfl, e9.trans (.of s2)⟩
        · rintro σ H5 ⟨v9, v10, rfl, e6⟩
          exact ⟨_, _, _, _, _, _, _, rfl, e5.trans e6, P5.ext e6, e6.get w5 (fun _ z => nomatch z)⟩
      · clear e2 P2 wa v4 v5 v6 v7 v8 v9 v10
        rintro σ H3 ⟨v4, v5, v6, v7, v8, v9, v10, rfl, e3, P3, w3⟩
        exact ⟨_, _, _, _, _, _, _, _, _, _, rfl, e3⟩
    · rintro σ H2 ⟨v1, v2, v3, v4, v5, v6, v7, v8, v9, v10, rfl, e1⟩
      exact q H2
end
end Law
end

section
set_option Elab.async false
set_option linter.all false
set_option maxRecDepth 100000
set_option maxHeartbeats 0
namespace Law
open PySem PySem.Spec PyProof.Rows L2 LamX QB QM
def dds : List He.DefD := [⟨("_wall", none), "_wall", "_wall", defArgs s__wall, defBody s__wall, defScope s__wall, [], []⟩,
  ⟨("is_number", none), "is_number", "is_number", defArgs s_is_number, defBody s_is_number, defScope s_is_number, [], []⟩,
  ⟨("is_list", none), "is_list", "is_list", defArgs s_is_list, defBody s_is_list, defScope s_is_list, [], []⟩,
  ⟨("is_name", none), "is_name", "is_name", defArgs s_is_name, defBody s_is_name, defScope s_is_name, [], []⟩,
  ⟨("is_tag", none), "is_tag", "is_tag", defArgs s_is_tag, defBody s_is_tag, defScope s_is_tag, [], []⟩,
  ⟨("is_subject", none), "is_subject", "is_subject", defArgs s_is_subject, defBody s_is_subject, defScope s_is_subject, [], []⟩,
  ⟨("is_standing", none), "is_standing", "is_standing", defArgs s_is_standing, defBody s_is_standing, defScope s_is_standing, [], []⟩,
  ⟨("check_tags", none), "check_tags", "check_tags", defArgs s_check_tags, defBody s_check_tags, defScope s_check_tags, [], []⟩,
  ⟨("check_word", none), "check_word", "check_word", defArgs s_check_word, defBody s_check_word, defScope s_check_word, [], []⟩,
  ⟨("check_standings", none), "check_standings", "check_standings", defArgs s_check_standings, defBody s_check_standings, defScope s_check_standings, [], []⟩,
  ⟨("check_number", none), "check_number", "check_number", defArgs s_check_number, defBody s_check_number, defScope s_check_number, [], []⟩,
  ⟨("no_ways", none), "no_ways", "no_ways", defArgs s_no_ways, defBody s_no_ways, defScope s_no_ways, [], []⟩,
  ⟨("walked", none), "walked", "walked", defArgs s_walked, defBody s_walked, defScope s_walked, [], []⟩,
  ⟨("made", none), "made", "made", defArgs s_made, defBody s_made, defScope s_made, [], []⟩,
  ⟨("is_settled_at", none), "is_settled_at", "is_settled_at", defArgs s_is_settled_at, defBody s_is_settled_at, defScope s_is_settled_at, [], []⟩,
  ⟨("is_made_at", none), "is_made_at", "is_made_at", defArgs s_is_made_at, defBody s_is_made_at, defScope s_is_made_at, [], []⟩,
  ⟨("copied", none), "copied", "copied", defArgs s_copied, defBody s_copied, defScope s_copied, [], []⟩,
  ⟨("without_needless_ways", none), "without_needless_ways", "without_needless_ways", defArgs s_without_needless_ways, defBody s_without_needless_ways, defScope s_without_needless_ways, [], []⟩,
  ⟨("numbered", none), "numbered", "numbered", defArgs s_numbered, defBody s_numbered, defScope s_numbered, [], []⟩,
  ⟨("parted", none), "parted", "parted", defArgs s_parted, defBody s_parted, defScope s_parted, [], []⟩,
  ⟨("alike_classes", none), "alike_classes", "alike_classes", defArgs s_alike_classes, defBody s_alike_classes, defScope s_alike_classes, [], []⟩,
  ⟨("in_order_met", none), "in_order_met", "in_order_met", defArgs s_in_order_met, defBody s_in_order_met, defScope s_in_order_met, [], []⟩,
  ⟨("least_form", none), "least_form", "least_form", defArgs s_least_form, defBody s_least_form, defScope s_least_form, [], []⟩,
  ⟨("eater_of", none), "eater_of", "eater_of", defArgs s_eater_of, defBody s_eater_of, defScope s_eater_of, [], []⟩,
  ⟨("check_tag", none), "check_tag", "check_tag", defArgs s_check_tag, defBody s_check_tag, defScope s_check_tag, [], []⟩,
  ⟨("check_some", none), "check_some", "check_some", defArgs s_check_some, defBody s_check_some, defScope s_check_some, [], []⟩,
  ⟨("is_pair", none), "is_pair", "is_pair", defArgs s_is_pair, defBody s_is_pair, defScope s_is_pair, [], []⟩,
  ⟨("check_pairs", none), "check_pairs", "check_pairs", defArgs s_check_pairs, defBody s_check_pairs, defScope s_check_pairs, [], []⟩,
  ⟨("ways_for", none), "ways_for", "ways_for", defArgs s_ways_for, defBody s_ways_for, defScope s_ways_for, [], []⟩,
  ⟨("keep", none), "keep", "keep", defArgs s_keep, defBody s_keep, defScope s_keep, [], []⟩,
  ⟨("put", none), "put", "put", defArgs s_put, defBody s_put, defScope s_put, [], []⟩,
  ⟨("strip", none), "strip", "strip", defArgs s_strip, defBody s_strip, defScope s_strip, [], []⟩,
  ⟨("once", none), "once", "once", defArgs s_once, defBody s_once, defScope s_once, [], []⟩,
  ⟨("exchange", none), "exchange", "exchange", defArgs s_exchange, defBody s_exchange, defScope s_exchange, [], []⟩,
  ⟨("press", none), "press", "press", defArgs s_press, defBody s_press, defScope s_press, [], []⟩,
  ⟨("_law_mixed", none), "_law_mixed", "_law_mixed", defArgs s__law_mixed, defBody s__law_mixed, defScope s__law_mixed, [], []⟩,
  ⟨("_law_pile", none), "_law_pile", "_law_pile", defArgs s__law_pile, defBody s__law_pile, defScope s__law_pile, [], []⟩,
  ⟨("_law_take", none), "_law_take", "_law_take", defArgs s__law_take, defBody s__law_take, defScope s__law_take, [], []⟩,
  ⟨("_law_tags", none), "_law_tags", "_law_tags", defArgs s__law_tags, defBody s__law_tags, defScope s__law_tags, [], []⟩,
  ⟨("_law_done", none), "_law_done", "_law_done", defArgs s__law_done, defBody s__law_done, defScope s__law_done, [], []⟩,
  ⟨("_law_told", none), "_law_told", "_law_told", defArgs s__law_told, defBody s__law_told, defScope s__law_told, [], []⟩,
  ⟨("_law_is_tag", none), "_law_is_tag", "_law_is_tag", defArgs s__law_is_tag, defBody s__law_is_tag, defScope s__law_is_tag, [], []⟩,
  ⟨("_law_tags_due", none), "_law_tags_due", "_law_tags_due", defArgs s__law_tags_due, defBody s__law_tags_due, defScope s__law_tags_due, [], []⟩,
  ⟨("_law_list_due", none), "_law_list_due", "_law_list_due", defArgs s__law_list_due, defBody s__law_list_due, defScope s__law_list_due, [], []⟩,
  ⟨("_law_pairs_due", none), "_law_pairs_due", "_law_pairs_due", defArgs s__law_pairs_due, defBody s__law_pairs_due, defScope s__law_pairs_due, [], []⟩,
  ⟨("_law_number_due", none), "_law_number_due", "_law_number_due", defArgs s__law_number_due, defBody s__law_number_due, defScope s__law_number_due, [], []⟩,
  ⟨("_law_due", none), "_law_due", "_law_due", defArgs s__law_due, defBody s__law_due, defScope s__law_due, [], []⟩,
  ⟨("_law_things", none), "_law_things", "_law_things", defArgs s__law_things, defBody s__law_things, defScope s__law_things, [], []⟩,
  ⟨("law", none), "law", "law", defArgs s_law, defBody s_law, defScope s_law, [], []⟩,
  ⟨("InvalidTags", some "__init__"), "__init__", "InvalidTags.__init__", defArgs s_InvalidTags___init__, defBody s_InvalidTags___init__, defScope s_InvalidTags___init__, [], []⟩,
  ⟨("InvalidSubject", some "__init__"), "__init__", "InvalidSubject.__init__", defArgs s_InvalidSubject___init__, defBody s_InvalidSubject___init__, defScope s_InvalidSubject___init__, [], []⟩,
  ⟨("InvalidEater", some "__init__"), "__init__", "InvalidEater.__init__", defArgs s_InvalidEater___init__, defBody s_InvalidEater___init__, defScope s_InvalidEater___init__, [], []⟩,
  ⟨("InvalidTag", some "__init__"), "__init__", "InvalidTag.__init__", defArgs s_InvalidTag___init__, defBody s_InvalidTag___init__, defScope s_InvalidTag___init__, [], []⟩,
  ⟨("InvalidPairs", some "__init__"), "__init__", "InvalidPairs.__init__", defArgs s_InvalidPairs___init__, defBody s_InvalidPairs___init__, defScope s_InvalidPairs___init__, [], []⟩,
  ⟨("InvalidNumber", some "__init__"), "__init__", "InvalidNumber.__init__", defArgs s_InvalidNumber___init__, defBody s_InvalidNumber___init__, defScope s_InvalidNumber___init__, [], []⟩,
  ⟨("TooMany", some "__init__"), "__init__", "TooMany.__init__", defArgs s_TooMany___init__, defBody s_TooMany___init__, defScope s_TooMany___init__, [], []⟩,
  ⟨("Eater", some "__init__"), "__init__", "Eater.__init__", defArgs s_Eater___init__, defBody s_Eater___init__, defScope s_Eater___init__, [], []⟩,
  ⟨("Eater", some "__len__"), "__len__", "Eater.__len__", defArgs s_Eater___len__, defBody s_Eater___len__, defScope s_Eater___len__, [], []⟩,
  ⟨("Eater", some "__eq__"), "__eq__", "Eater.__eq__", defArgs s_Eater___eq__, defBody s_Eater___eq__, defScope s_Eater___eq__, [], []⟩,
  ⟨("Eater", some "__contains__"), "__contains__", "Eater.__contains__", defArgs s_Eater___contains__, defBody s_Eater___contains__, defScope s_Eater___contains__, [], []⟩,
  ⟨("Eater", some "tags"), "tags", "Eater.tags", defArgs s_Eater_tags, defBody s_Eater_tags, defScope s_Eater_tags, [], []⟩,
  ⟨("Eater", some "standings"), "standings", "Eater.standings", defArgs s_Eater_standings, defBody s_Eater_standings, defScope s_Eater_standings, [], []⟩,
  ⟨("Eater", some "on"), "on", "Eater.on", defArgs s_Eater_on, defBody s_Eater_on, defScope s_Eater_on, [], []⟩,
  ⟨("Eater", some "settled"), "settled", "Eater.settled", defArgs s_Eater_settled, defBody s_Eater_settled, defScope s_Eater_settled, [], []⟩,
  ⟨("Eater", some "then"), "then", "Eater.then", defArgs s_Eater_then, defBody s_Eater_then, defScope s_Eater_then, [], []⟩,
  ⟨("Eater", some "power"), "power", "Eater.power", defArgs s_Eater_power, defBody s_Eater_power, defScope s_Eater_power, [], []⟩]
def fas : List He.Fa := [.free "ValueError", .free "abs", .free "all", .free "any", .free "bool", .free "enumerate", .free "int", .free "isinstance", .free "len", .free "list", .free "max", .free "range", .free "repr", .free "sorted", .free "str", .free "tuple", .free "zip", .str "LETTERS" "abcdefghijklmnopqrstuvwxyz", .int "MOST_LETTERS" 8, .int "MOST_TAGS" 6, .int "MOST_STANDINGS" 30, .int "LONGEST_WORD" 8, .int "LONGEST_SUBJECT" 200, .int "LARGEST_MOST" 20, .glo "_wall", .glo "is_number", .glo "is_list", .glo "is_name", .glo "is_tag", .glo "is_subject", .glo "is_standing", .glo "check_tags", .glo "check_word", .glo "check_standings", .glo "check_number", .glo "no_ways", .glo "walked", .glo "made", .glo "is_settled_at", .glo "is_made_at", .glo "copied", .glo "without_needless_ways", .glo "numbered", .glo "parted", .glo "alike_classes", .glo "in_order_met", .glo "least_form", .glo "eater_of", .glo "check_tag", .glo "check_some", .glo "is_pair", .glo "check_pairs", .glo "ways_for", .glo "keep", .glo "put", .glo "strip", .glo "once", .glo "exchange", .glo "press", .glo "_law_mixed", .glo "_law_pile", .glo "_law_take", .glo "_law_tags", .glo "_law_done", .glo "_law_told", .glo "_law_is_tag", .glo "_law_tags_due", .glo "_law_list_due", .glo "_law_pairs_due", .glo "_law_number_due", .glo "_law_due", .glo "_law_things", .glo "law", .glo "TagError", .glo "InvalidTags", .glo "InvalidSubject", .glo "InvalidEater", .glo "InvalidTag", .glo "InvalidPairs", .glo "InvalidNumber", .glo "TooMany", .glo "Eater", .cls "Eater", .meth "Eater" "__len__", .meth "Eater" "__eq__", .meth "Eater" "__contains__", .meth "Eater" "tags", .meth "Eater" "standings", .meth "Eater" "on", .meth "Eater" "settled", .meth "Eater" "then", .meth "Eater" "power", .mkr "Eater", .noat "Eater" "_standings", .noat "Eater" "_tags"]
def exB (K : PySem.W.Frag) : Bool := QE.ownB K (He.ga K "Eater") && (QX.excTB K (He.ga K "InvalidTags") (He.fAd K ("InvalidTags", some "__init__")) "index" && (QX.excTB K (He.ga K "InvalidSubject") (He.fAd K ("InvalidSubject", some "__init__")) "index" && (QX.excTB K (He.ga K "InvalidEater") (He.fAd K ("InvalidEater", some "__init__")) "index" && (QX.excTB K (He.ga K "InvalidTag") (He.fAd K ("InvalidTag", some "__init__")) "tag" && (QX.excTB K (He.ga K "InvalidPairs") (He.fAd K ("InvalidPairs", some "__init__")) "index" && (QX.excTB K (He.ga K "InvalidNumber") (He.fAd K ("InvalidNumber", some "__init__")) "number" && (QX.excTB K (He.ga K "TooMany") (He.fAd K ("TooMany", some "__init__")) "limit" && (QX.exmB K (He.ga K "InvalidTags") (He.ga K "TagError") && (QX.isTB K (He.ga K "InvalidTags") "ValueError" true && (QX.isB K (He.ga K "InvalidTags") (He.ga K "TagError") true && (QX.isB K (He.ga K "InvalidTags") (He.ga K "InvalidTags") true && (QX.isB K (He.ga K "InvalidTags") (He.ga K "InvalidSubject") false && (QX.isB K (He.ga K "InvalidTags") (He.ga K "InvalidEater") false && (QX.isB K (He.ga K "InvalidTags") (He.ga K "InvalidTag") false && (QX.isB K (He.ga K "InvalidTags") (He.ga K "InvalidPairs") false && (QX.isB K (He.ga K "InvalidTags") (He.ga K "InvalidNumber") false && (QX.isB K (He.ga K "InvalidTags") (He.ga K "TooMany") false && (QX.exmB K (He.ga K "InvalidSubject") (He.ga K "TagError") && (QX.isTB K (He.ga K "InvalidSubject") "ValueError" true && (QX.isB K (He.ga K "InvalidSubject") (He.ga K "TagError") true && (QX.isB K (He.ga K "InvalidSubject") (He.ga K "InvalidTags") false && (QX.isB K (He.ga K "InvalidSubject") (He.ga K "InvalidSubject") true && (QX.isB K (He.ga K "InvalidSubject") (He.ga K "InvalidEater") false && (QX.isB K (He.ga K "InvalidSubject") (He.ga K "InvalidTag") false && (QX.isB K (He.ga K "InvalidSubject") (He.ga K "InvalidPairs") false && (QX.isB K (He.ga K "InvalidSubject") (He.ga K "InvalidNumber") false && (QX.isB K (He.ga K "InvalidSubject") (He.ga K "TooMany") false && (QX.exmB K (He.ga K "InvalidEater") (He.ga K "TagError") && (QX.isTB K (He.ga K "InvalidEater") "ValueError" true && (QX.isB K (He.ga K "InvalidEater") (He.ga K "TagError") true && (QX.isB K (He.ga K "InvalidEater") (He.ga K "InvalidTags") false && (QX.isB K (He.ga K "InvalidEater") (He.ga K "InvalidSubject") false && (QX.isB K (He.ga K "InvalidEater") (He.ga K "InvalidEater") true && (QX.isB K (He.ga K "InvalidEater") (He.ga K "InvalidTag") false && (QX.isB K (He.ga K "InvalidEater") (He.ga K "InvalidPairs") false && (QX.isB K (He.ga K "InvalidEater") (He.ga K "InvalidNumber") false && (QX.isB K (He.ga K "InvalidEater") (He.ga K "TooMany") false && (QX.exmB K (He.ga K "InvalidTag") (He.ga K "TagError") && (QX.isTB K (He.ga K "InvalidTag") "ValueError" true && (QX.isB K (He.ga K "InvalidTag") (He.ga K "TagError") true && (QX.isB K (He.ga K "InvalidTag") (He.ga K "InvalidTags") false && (QX.isB K (He.ga K "InvalidTag") (He.ga K "InvalidSubject") false && (QX.isB K (He.ga K "InvalidTag") (He.ga K "InvalidEater") false && (QX.isB K (He.ga K "InvalidTag") (He.ga K "InvalidTag") true && (QX.isB K (He.ga K "InvalidTag") (He.ga K "InvalidPairs") false && (QX.isB K (He.ga K "InvalidTag") (He.ga K "InvalidNumber") false && (QX.isB K (He.ga K "InvalidTag") (He.ga K "TooMany") false && (QX.exmB K (He.ga K "InvalidPairs") (He.ga K "TagError") && (QX.isTB K (He.ga K "InvalidPairs") "ValueError" true && (QX.isB K (He.ga K "InvalidPairs") (He.ga K "TagError") true && (QX.isB K (He.ga K "InvalidPairs") (He.ga K "InvalidTags") false && (QX.isB K (He.ga K "InvalidPairs") (He.ga K "InvalidSubject") false && (QX.isB K (He.ga K "InvalidPairs") (He.ga K "InvalidEater") false && (QX.isB K (He.ga K "InvalidPairs") (He.ga K "InvalidTag") false && (QX.isB K (He.ga K "InvalidPairs") (He.ga K "InvalidPairs") true && (QX.isB K (He.ga K "InvalidPairs") (He.ga K "InvalidNumber") false && (QX.isB K (He.ga K "InvalidPairs") (He.ga K "TooMany") false && (QX.exmB K (He.ga K "InvalidNumber") (He.ga K "TagError") && (QX.isTB K (He.ga K "InvalidNumber") "ValueError" true && (QX.isB K (He.ga K "InvalidNumber") (He.ga K "TagError") true && (QX.isB K (He.ga K "InvalidNumber") (He.ga K "InvalidTags") false && (QX.isB K (He.ga K "InvalidNumber") (He.ga K "InvalidSubject") false && (QX.isB K (He.ga K "InvalidNumber") (He.ga K "InvalidEater") false && (QX.isB K (He.ga K "InvalidNumber") (He.ga K "InvalidTag") false && (QX.isB K (He.ga K "InvalidNumber") (He.ga K "InvalidPairs") false && (QX.isB K (He.ga K "InvalidNumber") (He.ga K "InvalidNumber") true && (QX.isB K (He.ga K "InvalidNumber") (He.ga K "TooMany") false && (QX.exmB K (He.ga K "TooMany") (He.ga K "TagError") && (QX.isTB K (He.ga K "TooMany") "ValueError" true && (QX.isB K (He.ga K "TooMany") (He.ga K "TagError") true && (QX.isB K (He.ga K "TooMany") (He.ga K "InvalidTags") false && (QX.isB K (He.ga K "TooMany") (He.ga K "InvalidSubject") false && (QX.isB K (He.ga K "TooMany") (He.ga K "InvalidEater") false && (QX.isB K (He.ga K "TooMany") (He.ga K "InvalidTag") false && (QX.isB K (He.ga K "TooMany") (He.ga K "InvalidPairs") false && (QX.isB K (He.ga K "TooMany") (He.ga K "InvalidNumber") false && (QX.isB K (He.ga K "TooMany") (He.ga K "TooMany") true)))))))))))))))))))))))))))))))))))))))))))))))))))))))))))))))))))))))))))))
theorem tx_mk {K : PySem.W.Frag} {h : Heap} {mg : Str → Option Value} (X0 : K.In h) (G : h.Ns mainGlobals mg) (c : He.SaysD fas dds K) (ce : exB K = true) : ∃ X : TX K mg, X.lam_c = He.codeOf K ("without_needless_ways", none) ∧ X.lam_P = He.tabOf K (He.codeOf K ("without_needless_ways", none)) ∧ X.d_law.a = He.ga K "law" := by
  obtain ⟨fd0, F0⟩ := c.def_ 0 (d := ⟨("_wall", none), "_wall", "_wall", defArgs s__wall, defBody s__wall, defScope s__wall, [], []⟩) rfl
  have F0 : L2.Fun K "_wall" "_wall" s__wall (He.fAd K ("_wall", none)) fd0 := QE.funD_fun F0
  obtain ⟨fd1, F1⟩ := c.def_ 1 (d := ⟨("is_number", none), "is_number", "is_number", defArgs s_is_number, defBody s_is_number, defScope s_is_number, [], []⟩) rfl
  have F1 : L2.Fun K "is_number" "is_number" s_is_number (He.fAd K ("is_number", none)) fd1 := QE.funD_fun F1
  obtain ⟨fd2, F2⟩ := c.def_ 2 (d := ⟨("is_list", none), "is_list", "is_list", defArgs s_is_list, defBody s_is_list, defScope s_is_list, [], []⟩) rfl
  have F2 : L2.Fun K "is_list" "is_list" s_is_list (He.fAd K ("is_list", none)) fd2 := QE.funD_fun F2
  obtain ⟨fd3, F3⟩ := c.def_ 3 (d := ⟨("is_name", none), "is_name", "is_name", defArgs s_is_name, defBody s_is_name, defScope s_is_name, [], []⟩) rfl
  have F3 : L2.Fun K "is_name" "is_name" s_is_name (He.fAd K ("is_name", none)) fd3 := QE.funD_fun F3
  obtain ⟨fd4, F4⟩ := c.def_ 4 (d := ⟨("is_tag", none), "is_tag", "is_tag", defArgs s_is_tag, defBody s_is_tag, defScope s_is_tag, [], []⟩) rfl
  have F4 : L2.Fun K "is_tag" "is_tag" s_is_tag (He.fAd K ("is_tag", none)) fd4 := QE.funD_fun F4
  obtain ⟨fd5, F5⟩ := c.def_ 5 (d := ⟨("is_subject", none), "is_subject", "is_subject", defArgs s_is_subject, defBody s_is_subject, defScope s_is_subject, [], []⟩) rfl
  have F5 : L2.Fun K "is_subject" "is_subject" s_is_subject (He.fAd K ("is_subject", none)) fd5 := QE.funD_fun F5
  obtain ⟨fd6, F6⟩ := c.def_ 6 (d := ⟨("is_standing", none), "is_standing", "is_standing", defArgs s_is_standing, defBody s_is_standing, defScope s_is_standing, [], []⟩) rfl
  have F6 : L2.Fun K "is_standing" "is_standing" s_is_standing (He.fAd K ("is_standing", none)) fd6 := QE.funD_fun F6
  obtain ⟨fd7, F7⟩ := c.def_ 7 (d := ⟨("check_tags", none), "check_tags", "check_tags", defArgs s_check_tags, defBody s_check_tags, defScope s_check_tags, [], []⟩) rfl
  have F7 : L2.Fun K "check_tags" "check_tags" s_check_tags (He.fAd K ("check_tags", none)) fd7 := QE.funD_fun F7
  obtain ⟨fd8, F8⟩ := c.def_ 8 (d := ⟨("check_word", none), "check_word", "check_word", defArgs s_check_word, defBody s_check_word, defScope s_check_word, [], []⟩) rfl
  have F8 : L2.Fun K "check_word" "check_word" s_check_word (He.fAd K ("check_word", none)) fd8 := QE.funD_fun F8
  obtain ⟨fd9, F9⟩ := c.def_ 9 (d := ⟨("check_standings", none), "check_standings", "check_standings", defArgs s_check_standings, defBody s_check_standings, defScope s_check_standings, [], []⟩) rfl
  have F9 : L2.Fun K "check_standings" "check_standings" s_check_standings (He.fAd K ("check_standings", none)) fd9 := QE.funD_fun F9
  obtain ⟨fd10, F10⟩ := c.def_ 10 (d := ⟨("check_number", none), "check_number", "check_number", defArgs s_check_number, defBody s_check_number, defScope s_check_number, [], []⟩) rfl
  have F10 : L2.Fun K "check_number" "check_number" s_check_number (He.fAd K ("check_number", none)) fd10 := QE.funD_fun F10
  obtain ⟨fd11, F11⟩ := c.def_ 11 (d := ⟨("no_ways", none), "no_ways", "no_ways", defArgs s_no_ways, defBody s_no_ways, defScope s_no_ways, [], []⟩) rfl
  have F11 : L2.Fun K "no_ways" "no_ways" s_no_ways (He.fAd K ("no_ways", none)) fd11 := QE.funD_fun F11
  obtain ⟨fd12, F12⟩ := c.def_ 12 (d := ⟨("walked", none), "walked", "walked", defArgs s_walked, defBody s_walked, defScope s_walked, [], []⟩) rfl
  have F12 : L2.Fun K "walked" "walked" s_walked (He.fAd K ("walked", none)) fd12 := QE.funD_fun F12
  obtain ⟨fd13, F13⟩ := c.def_ 13 (d := ⟨("made", none), "made", "made", defArgs s_made, defBody s_made, defScope s_made, [], []⟩) rfl
  have F13 : L2.Fun K "made" "made" s_made (He.fAd K ("made", none)) fd13 := QE.funD_fun F13
  obtain ⟨fd14, F14⟩ := c.def_ 14 (d := ⟨("is_settled_at", none), "is_settled_at", "is_settled_at", defArgs s_is_settled_at, defBody s_is_settled_at, defScope s_is_settled_at, [], []⟩) rfl
  have F14 : L2.Fun K "is_settled_at" "is_settled_at" s_is_settled_at (He.fAd K ("is_settled_at", none)) fd14 := QE.funD_fun F14
  obtain ⟨fd15, F15⟩ := c.def_ 15 (d := ⟨("is_made_at", none), "is_made_at", "is_made_at", defArgs s_is_made_at, defBody s_is_made_at, defScope s_is_made_at, [], []⟩) rfl
  have F15 : L2.Fun K "is_made_at" "is_made_at" s_is_made_at (He.fAd K ("is_made_at", none)) fd15 := QE.funD_fun F15
  obtain ⟨fd16, F16⟩ := c.def_ 16 (d := ⟨("copied", none), "copied", "copied", defArgs s_copied, defBody s_copied, defScope s_copied, [], []⟩) rfl
  have F16 : L2.Fun K "copied" "copied" s_copied (He.fAd K ("copied", none)) fd16 := QE.funD_fun F16
  obtain ⟨fd17, F17⟩ := c.def_ 17 (d := ⟨("without_needless_ways", none), "without_needless_ways", "without_needless_ways", defArgs s_without_needless_ways, defBody s_without_needless_ways, defScope s_without_needless_ways, [], []⟩) rfl
  have G17 : QB.FunC K "without_needless_ways" "without_needless_ways" s_without_needless_ways (He.fAd K ("without_needless_ways", none)) fd17 (He.codeOf K ("without_needless_ways", none)) := QE.funC_of F17
  have F17 : L2.Fun K "without_needless_ways" "without_needless_ways" s_without_needless_ways (He.fAd K ("without_needless_ways", none)) fd17 := QE.funD_fun F17
  obtain ⟨fd18, F18⟩ := c.def_ 18 (d := ⟨("numbered", none), "numbered", "numbered", defArgs s_numbered, defBody s_numbered, defScope s_numbered, [], []⟩) rfl
  have F18 : L2.Fun K "numbered" "numbered" s_numbered (He.fAd K ("numbered", none)) fd18 := QE.funD_fun F18
  obtain ⟨fd19, F19⟩ := c.def_ 19 (d := ⟨("parted", none), "parted", "parted", defArgs s_parted, defBody s_parted, defScope s_parted, [], []⟩) rfl
  have F19 : L2.Fun K "parted" "parted" s_parted (He.fAd K ("parted", none)) fd19 := QE.funD_fun F19
  obtain ⟨fd20, F20⟩ := c.def_ 20 (d := ⟨("alike_classes", none), "alike_classes", "alike_classes", defArgs s_alike_classes, defBody s_alike_classes, defScope s_alike_classes, [], []⟩) rfl
  have F20 : L2.Fun K "alike_classes" "alike_classes" s_alike_classes (He.fAd K ("alike_classes", none)) fd20 := QE.funD_fun F20
  obtain ⟨fd21, F21⟩ := c.def_ 21 (d := ⟨("in_order_met", none), "in_order_met", "in_order_met", defArgs s_in_order_met, defBody s_in_order_met, defScope s_in_order_met, [], []⟩) rfl
  have F21 : L2.Fun K "in_order_met" "in_order_met" s_in_order_met (He.fAd K ("in_order_met", none)) fd21 := QE.funD_fun F21
  obtain ⟨fd22, F22⟩ := c.def_ 22 (d := ⟨("least_form", none), "least_form", "least_form", defArgs s_least_form, defBody s_least_form, defScope s_least_form, [], []⟩) rfl
  have F22 : L2.Fun K "least_form" "least_form" s_least_form (He.fAd K ("least_form", none)) fd22 := QE.funD_fun F22
  obtain ⟨fd23, F23⟩ := c.def_ 23 (d := ⟨("eater_of", none), "eater_of", "eater_of", defArgs s_eater_of, defBody s_eater_of, defScope s_eater_of, [], []⟩) rfl
  have F23 : L2.Fun K "eater_of" "eater_of" s_eater_of (He.fAd K ("eater_of", none)) fd23 := QE.funD_fun F23
  obtain ⟨fd24, F24⟩ := c.def_ 24 (d := ⟨("check_tag", none), "check_tag", "check_tag", defArgs s_check_tag, defBody s_check_tag, defScope s_check_tag, [], []⟩) rfl
  have F24 : L2.Fun K "check_tag" "check_tag" s_check_tag (He.fAd K ("check_tag", none)) fd24 := QE.funD_fun F24
  obtain ⟨fd25, F25⟩ := c.def_ 25 (d := ⟨("check_some", none), "check_some", "check_some", defArgs s_check_some, defBody s_check_some, defScope s_check_some, [], []⟩) rfl
  have F25 : L2.Fun K "check_some" "check_some" s_check_some (He.fAd K ("check_some", none)) fd25 := QE.funD_fun F25
  obtain ⟨fd26, F26⟩ := c.def_ 26 (d := ⟨("is_pair", none), "is_pair", "is_pair", defArgs s_is_pair, defBody s_is_pair, defScope s_is_pair, [], []⟩) rfl
  have F26 : L2.Fun K "is_pair" "is_pair" s_is_pair (He.fAd K ("is_pair", none)) fd26 := QE.funD_fun F26
  obtain ⟨fd27, F27⟩ := c.def_ 27 (d := ⟨("check_pairs", none), "check_pairs", "check_pairs", defArgs s_check_pairs, defBody s_check_pairs, defScope s_check_pairs, [], []⟩) rfl
  have F27 : L2.Fun K "check_pairs" "check_pairs" s_check_pairs (He.fAd K ("check_pairs", none)) fd27 := QE.funD_fun F27
  obtain ⟨fd28, F28⟩ := c.def_ 28 (d := ⟨("ways_for", none), "ways_for", "ways_for", defArgs s_ways_for, defBody s_ways_for, defScope s_ways_for, [], []⟩) rfl
  have F28 : L2.Fun K "ways_for" "ways_for" s_ways_for (He.fAd K ("ways_for", none)) fd28 := QE.funD_fun F28
  obtain ⟨fd29, F29⟩ := c.def_ 29 (d := ⟨("keep", none), "keep", "keep", defArgs s_keep, defBody s_keep, defScope s_keep, [], []⟩) rfl
  have F29 : L2.Fun K "keep" "keep" s_keep (He.fAd K ("keep", none)) fd29 := QE.funD_fun F29
  obtain ⟨fd30, F30⟩ := c.def_ 30 (d := ⟨("put", none), "put", "put", defArgs s_put, defBody s_put, defScope s_put, [], []⟩) rfl
  have F30 : L2.Fun K "put" "put" s_put (He.fAd K ("put", none)) fd30 := QE.funD_fun F30
  obtain ⟨fd31, F31⟩ := c.def_ 31 (d := ⟨("strip", none), "strip", "strip", defArgs s_strip, defBody s_strip, defScope s_strip, [], []⟩) rfl
  have F31 : L2.Fun K "strip" "strip" s_strip (He.fAd K ("strip", none)) fd31 := QE.funD_fun F31
  obtain ⟨fd32, F32⟩ := c.def_ 32 (d := ⟨("once", none), "once", "once", defArgs s_once, defBody s_once, defScope s_once, [], []⟩) rfl
  have F32 : L2.Fun K "once" "once" s_once (He.fAd K ("once", none)) fd32 := QE.funD_fun F32
  obtain ⟨fd33, F33⟩ := c.def_ 33 (d := ⟨("exchange", none), "exchange", "exchange", defArgs s_exchange, defBody s_exchange, defScope s_exchange, [], []⟩) rfl
  have F33 : L2.Fun K "exchange" "exchange" s_exchange (He.fAd K ("exchange", none)) fd33 := QE.funD_fun F33
  obtain ⟨fd34, F34⟩ := c.def_ 34 (d := ⟨("press", none), "press", "press", defArgs s_press, defBody s_press, defScope s_press, [], []⟩) rfl
  have F34 : L2.Fun K "press" "press" s_press (He.fAd K ("press", none)) fd34 := QE.funD_fun F34
  obtain ⟨fd35, F35⟩ := c.def_ 35 (d := ⟨("_law_mixed", none), "_law_mixed", "_law_mixed", defArgs s__law_mixed, defBody s__law_mixed, defScope s__law_mixed, [], []⟩) rfl
  have F35 : L2.Fun K "_law_mixed" "_law_mixed" s__law_mixed (He.fAd K ("_law_mixed", none)) fd35 := QE.funD_fun F35
  obtain ⟨fd36, F36⟩ := c.def_ 36 (d := ⟨("_law_pile", none), "_law_pile", "_law_pile", defArgs s__law_pile, defBody s__law_pile, defScope s__law_pile, [], []⟩) rfl
  have F36 : L2.Fun K "_law_pile" "_law_pile" s__law_pile (He.fAd K ("_law_pile", none)) fd36 := QE.funD_fun F36
  obtain ⟨fd37, F37⟩ := c.def_ 37 (d := ⟨("_law_take", none), "_law_take", "_law_take", defArgs s__law_take, defBody s__law_take, defScope s__law_take, [], []⟩) rfl
  have F37 : L2.Fun K "_law_take" "_law_take" s__law_take (He.fAd K ("_law_take", none)) fd37 := QE.funD_fun F37
  obtain ⟨fd38, F38⟩ := c.def_ 38 (d := ⟨("_law_tags", none), "_law_tags", "_law_tags", defArgs s__law_tags, defBody s__law_tags, defScope s__law_tags, [], []⟩) rfl
  have F38 : L2.Fun K "_law_tags" "_law_tags" s__law_tags (He.fAd K ("_law_tags", none)) fd38 := QE.funD_fun F38
  obtain ⟨fd39, F39⟩ := c.def_ 39 (d := ⟨("_law_done", none), "_law_done", "_law_done", defArgs s__law_done, defBody s__law_done, defScope s__law_done, [], []⟩) rfl
  have F39 : L2.Fun K "_law_done" "_law_done" s__law_done (He.fAd K ("_law_done", none)) fd39 := QE.funD_fun F39
  obtain ⟨fd40, F40⟩ := c.def_ 40 (d := ⟨("_law_told", none), "_law_told", "_law_told", defArgs s__law_told, defBody s__law_told, defScope s__law_told, [], []⟩) rfl
  have F40 : L2.Fun K "_law_told" "_law_told" s__law_told (He.fAd K ("_law_told", none)) fd40 := QE.funD_fun F40
  obtain ⟨fd41, F41⟩ := c.def_ 41 (d := ⟨("_law_is_tag", none), "_law_is_tag", "_law_is_tag", defArgs s__law_is_tag, defBody s__law_is_tag, defScope s__law_is_tag, [], []⟩) rfl
  have F41 : L2.Fun K "_law_is_tag" "_law_is_tag" s__law_is_tag (He.fAd K ("_law_is_tag", none)) fd41 := QE.funD_fun F41
  obtain ⟨fd42, F42⟩ := c.def_ 42 (d := ⟨("_law_tags_due", none), "_law_tags_due", "_law_tags_due", defArgs s__law_tags_due, defBody s__law_tags_due, defScope s__law_tags_due, [], []⟩) rfl
  have F42 : L2.Fun K "_law_tags_due" "_law_tags_due" s__law_tags_due (He.fAd K ("_law_tags_due", none)) fd42 := QE.funD_fun F42
  obtain ⟨fd43, F43⟩ := c.def_ 43 (d := ⟨("_law_list_due", none), "_law_list_due", "_law_list_due", defArgs s__law_list_due, defBody s__law_list_due, defScope s__law_list_due, [], []⟩) rfl
  have F43 : L2.Fun K "_law_list_due" "_law_list_due" s__law_list_due (He.fAd K ("_law_list_due", none)) fd43 := QE.funD_fun F43
  obtain ⟨fd44, F44⟩ := c.def_ 44 (d := ⟨("_law_pairs_due", none), "_law_pairs_due", "_law_pairs_due", defArgs s__law_pairs_due, defBody s__law_pairs_due, defScope s__law_pairs_due, [], []⟩) rfl
  have F44 : L2.Fun K "_law_pairs_due" "_law_pairs_due" s__law_pairs_due (He.fAd K ("_law_pairs_due", none)) fd44 := QE.funD_fun F44
  obtain ⟨fd45, F45⟩ := c.def_ 45 (d := ⟨("_law_number_due", none), "_law_number_due", "_law_number_due", defArgs s__law_number_due, defBody s__law_number_due, defScope s__law_number_due, [], []⟩) rfl
  have F45 : L2.Fun K "_law_number_due" "_law_number_due" s__law_number_due (He.fAd K ("_law_number_due", none)) fd45 := QE.funD_fun F45
  obtain ⟨fd46, F46⟩ := c.def_ 46 (d := ⟨("_law_due", none), "_law_due", "_law_due", defArgs s__law_due, defBody s__law_due, defScope s__law_due, [], []⟩) rfl
  have F46 : L2.Fun K "_law_due" "_law_due" s__law_due (He.fAd K ("_law_due", none)) fd46 := QE.funD_fun F46
  obtain ⟨fd47, F47⟩ := c.def_ 47 (d := ⟨("_law_things", none), "_law_things", "_law_things", defArgs s__law_things, defBody s__law_things, defScope s__law_things, [], []⟩) rfl
  have F47 : L2.Fun K "_law_things" "_law_things" s__law_things (He.fAd K ("_law_things", none)) fd47 := QE.funD_fun F47
  obtain ⟨fd48, F48⟩ := c.def_ 48 (d := ⟨("law", none), "law", "law", defArgs s_law, defBody s_law, defScope s_law, [], []⟩) rfl
  have F48 : L2.Fun K "law" "law" s_law (He.fAd K ("law", none)) fd48 := QE.funD_fun F48
  obtain ⟨fd49, F49⟩ := c.def_ 49 (d := ⟨("InvalidTags", some "__init__"), "__init__", "InvalidTags.__init__", defArgs s_InvalidTags___init__, defBody s_InvalidTags___init__, defScope s_InvalidTags___init__, [], []⟩) rfl
  have F49 : L2.Fun K "__init__" "InvalidTags.__init__" s_InvalidTags___init__ (He.fAd K ("InvalidTags", some "__init__")) fd49 := QE.funD_fun F49
  obtain ⟨fd50, F50⟩ := c.def_ 50 (d := ⟨("InvalidSubject", some "__init__"), "__init__", "InvalidSubject.__init__", defArgs s_InvalidSubject___init__, defBody s_InvalidSubject___init__, defScope s_InvalidSubject___init__, [], []⟩) rfl
  have F50 : L2.Fun K "__init__" "InvalidSubject.__init__" s_InvalidSubject___init__ (He.fAd K ("InvalidSubject", some "__init__")) fd50 := QE.funD_fun F50
  obtain ⟨fd51, F51⟩ := c.def_ 51 (d := ⟨("InvalidEater", some "__init__"), "__init__", "InvalidEater.__init__", defArgs s_InvalidEater___init__, defBody s_InvalidEater___init__, defScope s_InvalidEater___init__, [], []⟩) rfl
  have F51 : L2.Fun K "__init__" "InvalidEater.__init__" s_InvalidEater___init__ (He.fAd K ("InvalidEater", some "__init__")) fd51 := QE.funD_fun F51
  obtain ⟨fd52, F52⟩ := c.def_ 52 (d := ⟨("InvalidTag", some "__init__"), "__init__", "InvalidTag.__init__", defArgs s_InvalidTag___init__, defBody s_InvalidTag___init__, defScope s_InvalidTag___init__, [], []⟩) rfl
  have F52 : L2.Fun K "__init__" "InvalidTag.__init__" s_InvalidTag___init__ (He.fAd K ("InvalidTag", some "__init__")) fd52 := QE.funD_fun F52
  obtain ⟨fd53, F53⟩ := c.def_ 53 (d := ⟨("InvalidPairs", some "__init__"), "__init__", "InvalidPairs.__init__", defArgs s_InvalidPairs___init__, defBody s_InvalidPairs___init__, defScope s_InvalidPairs___init__, [], []⟩) rfl
  have F53 : L2.Fun K "__init__" "InvalidPairs.__init__" s_InvalidPairs___init__ (He.fAd K ("InvalidPairs", some "__init__")) fd53 := QE.funD_fun F53
  obtain ⟨fd54, F54⟩ := c.def_ 54 (d := ⟨("InvalidNumber", some "__init__"), "__init__", "InvalidNumber.__init__", defArgs s_InvalidNumber___init__, defBody s_InvalidNumber___init__, defScope s_InvalidNumber___init__, [], []⟩) rfl
  have F54 : L2.Fun K "__init__" "InvalidNumber.__init__" s_InvalidNumber___init__ (He.fAd K ("InvalidNumber", some "__init__")) fd54 := QE.funD_fun F54
  obtain ⟨fd55, F55⟩ := c.def_ 55 (d := ⟨("TooMany", some "__init__"), "__init__", "TooMany.__init__", defArgs s_TooMany___init__, defBody s_TooMany___init__, defScope s_TooMany___init__, [], []⟩) rfl
  have F55 : L2.Fun K "__init__" "TooMany.__init__" s_TooMany___init__ (He.fAd K ("TooMany", some "__init__")) fd55 := QE.funD_fun F55
  obtain ⟨fd56, F56⟩ := c.def_ 56 (d := ⟨("Eater", some "__init__"), "__init__", "Eater.__init__", defArgs s_Eater___init__, defBody s_Eater___init__, defScope s_Eater___init__, [], []⟩) rfl
  have F56 : L2.Fun K "__init__" "Eater.__init__" s_Eater___init__ (He.fAd K ("Eater", some "__init__")) fd56 := QE.funD_fun F56
  obtain ⟨fd57, F57⟩ := c.def_ 57 (d := ⟨("Eater", some "__len__"), "__len__", "Eater.__len__", defArgs s_Eater___len__, defBody s_Eater___len__, defScope s_Eater___len__, [], []⟩) rfl
  have F57 : L2.Fun K "__len__" "Eater.__len__" s_Eater___len__ (He.fAd K ("Eater", some "__len__")) fd57 := QE.funD_fun F57
  obtain ⟨fd58, F58⟩ := c.def_ 58 (d := ⟨("Eater", some "__eq__"), "__eq__", "Eater.__eq__", defArgs s_Eater___eq__, defBody s_Eater___eq__, defScope s_Eater___eq__, [], []⟩) rfl
  have F58 : L2.Fun K "__eq__" "Eater.__eq__" s_Eater___eq__ (He.fAd K ("Eater", some "__eq__")) fd58 := QE.funD_fun F58
  obtain ⟨fd59, F59⟩ := c.def_ 59 (d := ⟨("Eater", some "__contains__"), "__contains__", "Eater.__contains__", defArgs s_Eater___contains__, defBody s_Eater___contains__, defScope s_Eater___contains__, [], []⟩) rfl
  have F59 : L2.Fun K "__contains__" "Eater.__contains__" s_Eater___contains__ (He.fAd K ("Eater", some "__contains__")) fd59 := QE.funD_fun F59
  obtain ⟨fd60, F60⟩ := c.def_ 60 (d := ⟨("Eater", some "tags"), "tags", "Eater.tags", defArgs s_Eater_tags, defBody s_Eater_tags, defScope s_Eater_tags, [], []⟩) rfl
  have F60 : L2.Fun K "tags" "Eater.tags" s_Eater_tags (He.fAd K ("Eater", some "tags")) fd60 := QE.funD_fun F60
  obtain ⟨fd61, F61⟩ := c.def_ 61 (d := ⟨("Eater", some "standings"), "standings", "Eater.standings", defArgs s_Eater_standings, defBody s_Eater_standings, defScope s_Eater_standings, [], []⟩) rfl
  have F61 : L2.Fun K "standings" "Eater.standings" s_Eater_standings (He.fAd K ("Eater", some "standings")) fd61 := QE.funD_fun F61
  obtain ⟨fd62, F62⟩ := c.def_ 62 (d := ⟨("Eater", some "on"), "on", "Eater.on", defArgs s_Eater_on, defBody s_Eater_on, defScope s_Eater_on, [], []⟩) rfl
  have F62 : L2.Fun K "on" "Eater.on" s_Eater_on (He.fAd K ("Eater", some "on")) fd62 := QE.funD_fun F62
  obtain ⟨fd63, F63⟩ := c.def_ 63 (d := ⟨("Eater", some "settled"), "settled", "Eater.settled", defArgs s_Eater_settled, defBody s_Eater_settled, defScope s_Eater_settled, [], []⟩) rfl
  have F63 : L2.Fun K "settled" "Eater.settled" s_Eater_settled (He.fAd K ("Eater", some "settled")) fd63 := QE.funD_fun F63
  obtain ⟨fd64, F64⟩ := c.def_ 64 (d := ⟨("Eater", some "then"), "then", "Eater.then", defArgs s_Eater_then, defBody s_Eater_then, defScope s_Eater_then, [], []⟩) rfl
  have F64 : L2.Fun K "then" "Eater.then" s_Eater_then (He.fAd K ("Eater", some "then")) fd64 := QE.funD_fun F64
  obtain ⟨fd65, F65⟩ := c.def_ 65 (d := ⟨("Eater", some "power"), "power", "Eater.power", defArgs s_Eater_power, defBody s_Eater_power, defScope s_Eater_power, [], []⟩) rfl
  have F65 : L2.Fun K "power" "Eater.power" s_Eater_power (He.fAd K ("Eater", some "power")) fd65 := QE.funD_fun F65
  obtain ⟨b_own_Eater, ce⟩ := He.ba ce
  obtain ⟨b_x_InvalidTags, ce⟩ := He.ba ce
  obtain ⟨b_x_InvalidSubject, ce⟩ := He.ba ce
  obtain ⟨b_x_InvalidEater, ce⟩ := He.ba ce
  obtain ⟨b_x_InvalidTag, ce⟩ := He.ba ce
  obtain ⟨b_x_InvalidPairs, ce⟩ := He.ba ce
  obtain ⟨b_x_InvalidNumber, ce⟩ := He.ba ce
  obtain ⟨b_x_TooMany, ce⟩ := He.ba ce
  obtain ⟨b_e_InvalidTags, ce⟩ := He.ba ce
  obtain ⟨b_v_InvalidTags, ce⟩ := He.ba ce
  obtain ⟨b_i_InvalidTags_TagError, ce⟩ := He.ba ce
  obtain ⟨b_i_InvalidTags_InvalidTags, ce⟩ := He.ba ce
  obtain ⟨b_i_InvalidTags_InvalidSubject, ce⟩ := He.ba ce
  obtain ⟨b_i_InvalidTags_InvalidEater, ce⟩ := He.ba ce
  obtain ⟨b_i_InvalidTags_InvalidTag, ce⟩ := He.ba ce
  obtain ⟨b_i_InvalidTags_InvalidPairs, ce⟩ := He.ba ce
  obtain ⟨b_i_InvalidTags_InvalidNumber, ce⟩ := He.ba ce
  obtain ⟨b_i_InvalidTags_TooMany, ce⟩ := He.ba ce
  obtain ⟨b_e_InvalidSubject, ce⟩ := He.ba ce
  obtain ⟨b_v_InvalidSubject, ce⟩ := He.ba ce
  obtain ⟨b_i_InvalidSubject_TagError, ce⟩ := He.ba ce
  obtain ⟨b_i_InvalidSubject_InvalidTags, ce⟩ := He.ba ce
  obtain ⟨b_i_InvalidSubject_InvalidSubject, ce⟩ := He.ba ce
  obtain ⟨b_i_InvalidSubject_InvalidEater, ce⟩ := He.ba ce
  obtain ⟨b_i_InvalidSubject_InvalidTag, ce⟩ := He.ba ce
  obtain ⟨b_i_InvalidSubject_InvalidPairs, ce⟩ := He.ba ce
  obtain ⟨b_i_InvalidSubject_InvalidNumber, ce⟩ := He.ba ce
  obtain ⟨b_i_InvalidSubject_TooMany, ce⟩ := He.ba ce
  obtain ⟨b_e_InvalidEater, ce⟩ := He.ba ce
  obtain ⟨b_v_InvalidEater, ce⟩ := He.ba ce
  obtain ⟨b_i_InvalidEater_TagError, ce⟩ := He.ba ce
  obtain ⟨b_i_InvalidEater_InvalidTags, ce⟩ := He.ba ce
  obtain ⟨b_i_InvalidEater_InvalidSubject, ce⟩ := He.ba ce
  obtain ⟨b_i_InvalidEater_InvalidEater, ce⟩ := He.ba ce
  obtain ⟨b_i_InvalidEater_InvalidTag, ce⟩ := He.ba ce
  obtain ⟨b_i_InvalidEater_InvalidPairs, ce⟩ := He.ba ce
  obtain ⟨b_i_InvalidEater_InvalidNumber, ce⟩ := He.ba ce
  obtain ⟨b_i_InvalidEater_TooMany, ce⟩ := He.ba ce
  obtain ⟨b_e_InvalidTag, ce⟩ := He.ba ce
  obtain ⟨b_v_InvalidTag, ce⟩ := He.ba ce
  obtain ⟨b_i_InvalidTag_TagError, ce⟩ := He.ba ce
  obtain ⟨b_i_InvalidTag_InvalidTags, ce⟩ := He.ba ce
  obtain ⟨b_i_InvalidTag_InvalidSubject, ce⟩ := He.ba ce
  obtain ⟨b_i_InvalidTag_InvalidEater, ce⟩ := He.ba ce
  obtain ⟨b_i_InvalidTag_InvalidTag, ce⟩ := He.ba ce
  obtain ⟨b_i_InvalidTag_InvalidPairs, ce⟩ := He.ba ce
  obtain ⟨b_i_InvalidTag_InvalidNumber, ce⟩ := He.ba ce
  obtain ⟨b_i_InvalidTag_TooMany, ce⟩ := He.ba ce
  obtain ⟨b_e_InvalidPairs, ce⟩ := He.ba ce
  obtain ⟨b_v_InvalidPairs, ce⟩ := He.ba ce
  obtain ⟨b_i_InvalidPairs_TagError, ce⟩ := He.ba ce
  obtain ⟨b_i_InvalidPairs_InvalidTags, ce⟩ := He.ba ce
  obtain ⟨b_i_InvalidPairs_InvalidSubject, ce⟩ := He.ba ce
  obtain ⟨b_i_InvalidPairs_InvalidEater, ce⟩ := He.ba ce
  obtain ⟨b_i_InvalidPairs_InvalidTag, ce⟩ := He.ba ce
  obtain ⟨b_i_InvalidPairs_InvalidPairs, ce⟩ := He.ba ce
  obtain ⟨b_i_InvalidPairs_InvalidNumber, ce⟩ := He.ba ce
  obtain ⟨b_i_InvalidPairs_TooMany, ce⟩ := He.ba ce
  obtain ⟨b_e_InvalidNumber, ce⟩ := He.ba ce
  obtain ⟨b_v_InvalidNumber, ce⟩ := He.ba ce
  obtain ⟨b_i_InvalidNumber_TagError, ce⟩ := He.ba ce
  obtain ⟨b_i_InvalidNumber_InvalidTags, ce⟩ := He.ba ce
  obtain ⟨b_i_InvalidNumber_InvalidSubject, ce⟩ := He.ba ce
  obtain ⟨b_i_InvalidNumber_InvalidEater, ce⟩ := He.ba ce
  obtain ⟨b_i_InvalidNumber_InvalidTag, ce⟩ := He.ba ce
  obtain ⟨b_i_InvalidNumber_InvalidPairs, ce⟩ := He.ba ce
  obtain ⟨b_i_InvalidNumber_InvalidNumber, ce⟩ := He.ba ce
  obtain ⟨b_i_InvalidNumber_TooMany, ce⟩ := He.ba ce
  obtain ⟨b_e_TooMany, ce⟩ := He.ba ce
  obtain ⟨b_v_TooMany, ce⟩ := He.ba ce
  obtain ⟨b_i_TooMany_TagError, ce⟩ := He.ba ce
  obtain ⟨b_i_TooMany_InvalidTags, ce⟩ := He.ba ce
  obtain ⟨b_i_TooMany_InvalidSubject, ce⟩ := He.ba ce
  obtain ⟨b_i_TooMany_InvalidEater, ce⟩ := He.ba ce
  obtain ⟨b_i_TooMany_InvalidTag, ce⟩ := He.ba ce
  obtain ⟨b_i_TooMany_InvalidPairs, ce⟩ := He.ba ce
  obtain ⟨b_i_TooMany_InvalidNumber, ce⟩ := He.ba ce
  have b_i_TooMany_TooMany := ce
  exact ⟨{
    n_ValueError := He.free_ok X0 G (c.fact 0 (f := .free "ValueError") rfl),
    n_abs := He.free_ok X0 G (c.fact 1 (f := .free "abs") rfl),
    n_all := He.free_ok X0 G (c.fact 2 (f := .free "all") rfl),
    n_any := He.free_ok X0 G (c.fact 3 (f := .free "any") rfl),
    n_bool := He.free_ok X0 G (c.fact 4 (f := .free "bool") rfl),
    n_enumerate := He.free_ok X0 G (c.fact 5 (f := .free "enumerate") rfl),
    n_int := He.free_ok X0 G (c.fact 6 (f := .free "int") rfl),
    n_isinstance := He.free_ok X0 G (c.fact 7 (f := .free "isinstance") rfl),
    n_len := He.free_ok X0 G (c.fact 8 (f := .free "len") rfl),
    n_list := He.free_ok X0 G (c.fact 9 (f := .free "list") rfl),
    n_max := He.free_ok X0 G (c.fact 10 (f := .free "max") rfl),
    n_range := He.free_ok X0 G (c.fact 11 (f := .free "range") rfl),
    n_repr := He.free_ok X0 G (c.fact 12 (f := .free "repr") rfl),
    n_sorted := He.free_ok X0 G (c.fact 13 (f := .free "sorted") rfl),
    n_str := He.free_ok X0 G (c.fact 14 (f := .free "str") rfl),
    n_tuple := He.free_ok X0 G (c.fact 15 (f := .free "tuple") rfl),
    n_zip := He.free_ok X0 G (c.fact 16 (f := .free "zip") rfl),
    c_LETTERS := (let ⟨t, h⟩ := He.str_ok X0 G (c.fact 17 (f := .str "LETTERS" "abcdefghijklmnopqrstuvwxyz") rfl); ⟨_, h, t, rfl⟩),
    c_MOST_LETTERS := (let ⟨t, h⟩ := He.int_ok X0 G (c.fact 18 (f := .int "MOST_LETTERS" 8) rfl); ⟨_, h, t, rfl⟩),
    c_MOST_TAGS := (let ⟨t, h⟩ := He.int_ok X0 G (c.fact 19 (f := .int "MOST_TAGS" 6) rfl); ⟨_, h, t, rfl⟩),
    c_MOST_STANDINGS := (let ⟨t, h⟩ := He.int_ok X0 G (c.fact 20 (f := .int "MOST_STANDINGS" 30) rfl); ⟨_, h, t, rfl⟩),
    c_LONGEST_WORD := (let ⟨t, h⟩ := He.int_ok X0 G (c.fact 21 (f := .int "LONGEST_WORD" 8) rfl); ⟨_, h, t, rfl⟩),
    c_LONGEST_SUBJECT := (let ⟨t, h⟩ := He.int_ok X0 G (c.fact 22 (f := .int "LONGEST_SUBJECT" 200) rfl); ⟨_, h, t, rfl⟩),
    c_LARGEST_MOST := (let ⟨t, h⟩ := He.int_ok X0 G (c.fact 23 (f := .int "LARGEST_MOST" 20) rfl); ⟨_, h, t, rfl⟩),
    d__wall := { a := He.fAd K ("_wall", none), fd := fd0, F := F0, b := F0.binds fun _ _ _ _ _ _ us hl => match us, hl with | [_], _ => rfl, mg := He.glo_ok X0 G (c.fact 24 (f := .glo "_wall") rfl) },
    d_is_number := { a := He.fAd K ("is_number", none), fd := fd1, F := F1, b := F1.binds fun _ _ _ _ _ _ us hl => match us, hl with | [_, _, _], _ => rfl, mg := He.glo_ok X0 G (c.fact 25 (f := .glo "is_number") rfl) },
    d_is_list := { a := He.fAd K ("is_list", none), fd := fd2, F := F2, b := F2.binds fun _ _ _ _ _ _ us hl => match us, hl with | [_, _, _], _ => rfl, mg := He.glo_ok X0 G (c.fact 26 (f := .glo "is_list") rfl) },
    d_is_name := { a := He.fAd K ("is_name", none), fd := fd3, F := F3, b := F3.binds fun _ _ _ _ _ _ us hl => match us, hl with | [_], _ => rfl, mg := He.glo_ok X0 G (c.fact 27 (f := .glo "is_name") rfl) },
    d_is_tag := { a := He.fAd K ("is_tag", none), fd := fd4, F := F4, b := F4.binds fun _ _ _ _ _ _ us hl => match us, hl with | [_, _], _ => rfl, mg := He.glo_ok X0 G (c.fact 28 (f := .glo "is_tag") rfl) },
    d_is_subject := { a := He.fAd K ("is_subject", none), fd := fd5, F := F5, b := F5.binds fun _ _ _ _ _ _ us hl => match us, hl with | [_, _], _ => rfl, mg := He.glo_ok X0 G (c.fact 29 (f := .glo "is_subject") rfl) },
    d_is_standing := { a := He.fAd K ("is_standing", none), fd := fd6, F := F6, b := F6.binds fun _ _ _ _ _ _ us hl => match us, hl with | [_, _, _], _ => rfl, mg := He.glo_ok X0 G (c.fact 30 (f := .glo "is_standing") rfl) },
    d_check_tags := { a := He.fAd K ("check_tags", none), fd := fd7, F := F7, b := F7.binds fun _ _ _ _ _ _ us hl => match us, hl with | [_], _ => rfl, mg := He.glo_ok X0 G (c.fact 31 (f := .glo "check_tags") rfl) },
    d_check_word := { a := He.fAd K ("check_word", none), fd := fd8, F := F8, b := F8.binds fun _ _ _ _ _ _ us hl => match us, hl with | [_, _, _], _ => rfl, mg := He.glo_ok X0 G (c.fact 32 (f := .glo "check_word") rfl) },
    d_check_standings := { a := He.fAd K ("check_standings", none), fd := fd9, F := F9, b := F9.binds fun _ _ _ _ _ _ us hl => match us, hl with | [_, _], _ => rfl, mg := He.glo_ok X0 G (c.fact 33 (f := .glo "check_standings") rfl) },
    d_check_number := { a := He.fAd K ("check_number", none), fd := fd10, F := F10, b := F10.binds fun _ _ _ _ _ _ us hl => match us, hl with | [_, _], _ => rfl, mg := He.glo_ok X0 G (c.fact 34 (f := .glo "check_number") rfl) },
    d_no_ways := { a := He.fAd K ("no_ways", none), fd := fd11, F := F11, b := F11.binds fun _ _ _ _ _ _ us hl => match us, hl with | [_], _ => rfl, mg := He.glo_ok X0 G (c.fact 35 (f := .glo "no_ways") rfl) },
    d_walked := { a := He.fAd K ("walked", none), fd := fd12, F := F12, b := F12.binds fun _ _ _ _ _ _ us hl => match us, hl with | [_, _, _], _ => rfl, mg := He.glo_ok X0 G (c.fact 36 (f := .glo "walked") rfl) },
    d_made := { a := He.fAd K ("made", none), fd := fd13, F := F13, b := F13.binds fun _ _ _ _ _ _ us hl => match us, hl with | [_, _, _], _ => rfl, mg := He.glo_ok X0 G (c.fact 37 (f := .glo "made") rfl) },
    d_is_settled_at := { a := He.fAd K ("is_settled_at", none), fd := fd14, F := F14, b := F14.binds fun _ _ _ _ _ _ us hl => match us, hl with | [_], _ => rfl, mg := He.glo_ok X0 G (c.fact 38 (f := .glo "is_settled_at") rfl) },
    d_is_made_at := { a := He.fAd K ("is_made_at", none), fd := fd15, F := F15, b := F15.binds fun _ _ _ _ _ _ us hl => match us, hl with | [_, _, _], _ => rfl, mg := He.glo_ok X0 G (c.fact 39 (f := .glo "is_made_at") rfl) },
    d_copied := { a := He.fAd K ("copied", none), fd := fd16, F := F16, b := F16.binds fun _ _ _ _ _ _ us hl => match us, hl with | [_], _ => rfl, mg := He.glo_ok X0 G (c.fact 40 (f := .glo "copied") rfl) },
    d_without_needless_ways := { a := He.fAd K ("without_needless_ways", none), fd := fd17, F := F17, b := F17.binds fun _ _ _ _ _ _ us hl => match us, hl with | [_, _], _ => rfl, mg := He.glo_ok X0 G (c.fact 41 (f := .glo "without_needless_ways") rfl) },
    d_numbered := { a := He.fAd K ("numbered", none), fd := fd18, F := F18, b := F18.binds fun _ _ _ _ _ _ us hl => match us, hl with | [_], _ => rfl, mg := He.glo_ok X0 G (c.fact 42 (f := .glo "numbered") rfl) },
    d_parted := { a := He.fAd K ("parted", none), fd := fd19, F := F19, b := F19.binds fun _ _ _ _ _ _ us hl => match us, hl with | [_, _], _ => rfl, mg := He.glo_ok X0 G (c.fact 43 (f := .glo "parted") rfl) },
    d_alike_classes := { a := He.fAd K ("alike_classes", none), fd := fd20, F := F20, b := F20.binds fun _ _ _ _ _ _ us hl => match us, hl with | [_], _ => rfl, mg := He.glo_ok X0 G (c.fact 44 (f := .glo "alike_classes") rfl) },
    d_in_order_met := { a := He.fAd K ("in_order_met", none), fd := fd21, F := F21, b := F21.binds fun _ _ _ _ _ _ us hl => match us, hl with | [_, _], _ => rfl, mg := He.glo_ok X0 G (c.fact 45 (f := .glo "in_order_met") rfl) },
    d_least_form := { a := He.fAd K ("least_form", none), fd := fd22, F := F22, b := F22.binds fun _ _ _ _ _ _ us hl => match us, hl with | [_, _], _ => rfl, mg := He.glo_ok X0 G (c.fact 46 (f := .glo "least_form") rfl) },
    d_eater_of := { a := He.fAd K ("eater_of", none), fd := fd23, F := F23, b := F23.binds fun _ _ _ _ _ _ us hl => match us, hl with | [_, _], _ => rfl, mg := He.glo_ok X0 G (c.fact 47 (f := .glo "eater_of") rfl) },
    d_check_tag := { a := He.fAd K ("check_tag", none), fd := fd24, F := F24, b := F24.binds fun _ _ _ _ _ _ us hl => match us, hl with | [_, _], _ => rfl, mg := He.glo_ok X0 G (c.fact 48 (f := .glo "check_tag") rfl) },
    d_check_some := { a := He.fAd K ("check_some", none), fd := fd25, F := F25, b := F25.binds fun _ _ _ _ _ _ us hl => match us, hl with | [_, _], _ => rfl, mg := He.glo_ok X0 G (c.fact 49 (f := .glo "check_some") rfl) },
    d_is_pair := { a := He.fAd K ("is_pair", none), fd := fd26, F := F26, b := F26.binds fun _ _ _ _ _ _ us hl => match us, hl with | [_, _], _ => rfl, mg := He.glo_ok X0 G (c.fact 50 (f := .glo "is_pair") rfl) },
    d_check_pairs := { a := He.fAd K ("check_pairs", none), fd := fd27, F := F27, b := F27.binds fun _ _ _ _ _ _ us hl => match us, hl with | [_, _], _ => rfl, mg := He.glo_ok X0 G (c.fact 51 (f := .glo "check_pairs") rfl) },
    d_ways_for := { a := He.fAd K ("ways_for", none), fd := fd28, F := F28, b := F28.binds fun _ _ _ _ _ _ us hl => match us, hl with | [_, _, _], _ => rfl, mg := He.glo_ok X0 G (c.fact 52 (f := .glo "ways_for") rfl) },
    d_keep := { a := He.fAd K ("keep", none), fd := fd29, F := F29, b := F29.binds fun _ _ _ _ _ _ us hl => match us, hl with | [_], _ => rfl, mg := He.glo_ok X0 G (c.fact 53 (f := .glo "keep") rfl) },
    d_put := { a := He.fAd K ("put", none), fd := fd30, F := F30, b := F30.binds fun _ _ _ _ _ _ us hl => match us, hl with | [_, _], _ => rfl, mg := He.glo_ok X0 G (c.fact 54 (f := .glo "put") rfl) },
    d_strip := { a := He.fAd K ("strip", none), fd := fd31, F := F31, b := F31.binds fun _ _ _ _ _ _ us hl => match us, hl with | [_, _, _], _ => rfl, mg := He.glo_ok X0 G (c.fact 55 (f := .glo "strip") rfl) },
    d_once := { a := He.fAd K ("once", none), fd := fd32, F := F32, b := F32.binds fun _ _ _ _ _ _ us hl => match us, hl with | [_, _], _ => rfl, mg := He.glo_ok X0 G (c.fact 56 (f := .glo "once") rfl) },
    d_exchange := { a := He.fAd K ("exchange", none), fd := fd33, F := F33, b := F33.binds fun _ _ _ _ _ _ us hl => match us, hl with | [_, _], _ => rfl, mg := He.glo_ok X0 G (c.fact 57 (f := .glo "exchange") rfl) },
    d_press := { a := He.fAd K ("press", none), fd := fd34, F := F34, b := F34.binds fun _ _ _ _ _ _ us hl => match us, hl with | [_, _, _], _ => rfl, mg := He.glo_ok X0 G (c.fact 58 (f := .glo "press") rfl) },
    d__law_mixed := { a := He.fAd K ("_law_mixed", none), fd := fd35, F := F35, b := F35.binds fun _ _ _ _ _ _ us hl => match us, hl with | [_, _], _ => rfl, mg := He.glo_ok X0 G (c.fact 59 (f := .glo "_law_mixed") rfl) },
    d__law_pile := { a := He.fAd K ("_law_pile", none), fd := fd36, F := F36, b := F36.binds fun _ _ _ _ _ _ us hl => match us, hl with | [_, _], _ => rfl, mg := He.glo_ok X0 G (c.fact 60 (f := .glo "_law_pile") rfl) },
    d__law_take := { a := He.fAd K ("_law_take", none), fd := fd37, F := F37, b := F37.binds fun _ _ _ _ _ _ us hl => match us, hl with | [_, _], _ => rfl, mg := He.glo_ok X0 G (c.fact 61 (f := .glo "_law_take") rfl) },
    d__law_tags := { a := He.fAd K ("_law_tags", none), fd := fd38, F := F38, b := F38.binds fun _ _ _ _ _ _ us hl => match us, hl with | [_, _], _ => rfl, mg := He.glo_ok X0 G (c.fact 62 (f := .glo "_law_tags") rfl) },
    d__law_done := { a := He.fAd K ("_law_done", none), fd := fd39, F := F39, b := F39.binds fun _ _ _ _ _ _ us hl => match us, hl with | [_, _, _, _], _ => rfl, mg := He.glo_ok X0 G (c.fact 63 (f := .glo "_law_done") rfl) },
    d__law_told := { a := He.fAd K ("_law_told", none), fd := fd40, F := F40, b := F40.binds fun _ _ _ _ _ _ us hl => match us, hl with | [_, _, _, _], _ => rfl, mg := He.glo_ok X0 G (c.fact 64 (f := .glo "_law_told") rfl) },
    d__law_is_tag := { a := He.fAd K ("_law_is_tag", none), fd := fd41, F := F41, b := F41.binds fun _ _ _ _ _ _ us hl => match us, hl with | [_, _], _ => rfl, mg := He.glo_ok X0 G (c.fact 65 (f := .glo "_law_is_tag") rfl) },
    d__law_tags_due := { a := He.fAd K ("_law_tags_due", none), fd := fd42, F := F42, b := F42.binds fun _ _ _ _ _ _ us hl => match us, hl with | [_], _ => rfl, mg := He.glo_ok X0 G (c.fact 66 (f := .glo "_law_tags_due") rfl) },
    d__law_list_due := { a := He.fAd K ("_law_list_due", none), fd := fd43, F := F43, b := F43.binds fun _ _ _ _ _ _ us hl => match us, hl with | [_, _, _, _], _ => rfl, mg := He.glo_ok X0 G (c.fact 67 (f := .glo "_law_list_due") rfl) },
    d__law_pairs_due := { a := He.fAd K ("_law_pairs_due", none), fd := fd44, F := F44, b := F44.binds fun _ _ _ _ _ _ us hl => match us, hl with | [_, _], _ => rfl, mg := He.glo_ok X0 G (c.fact 68 (f := .glo "_law_pairs_due") rfl) },
    d__law_number_due := { a := He.fAd K ("_law_number_due", none), fd := fd45, F := F45, b := F45.binds fun _ _ _ _ _ _ us hl => match us, hl with | [_], _ => rfl, mg := He.glo_ok X0 G (c.fact 69 (f := .glo "_law_number_due") rfl) },
    d__law_due := { a := He.fAd K ("_law_due", none), fd := fd46, F := F46, b := F46.binds fun _ _ _ _ _ _ us hl => match us, hl with | [_, _, _, _], _ => rfl, mg := He.glo_ok X0 G (c.fact 70 (f := .glo "_law_due") rfl) },
    d__law_things := { a := He.fAd K ("_law_things", none), fd := fd47, F := F47, b := F47.binds fun _ _ _ _ _ _ us hl => match us, hl with | [_, _], _ => rfl, mg := He.glo_ok X0 G (c.fact 71 (f := .glo "_law_things") rfl) },
    d_law := { a := He.fAd K ("law", none), fd := fd48, F := F48, b := F48.binds fun _ _ _ _ _ _ us hl => match us, hl with | [_], _ => rfl, mg := He.glo_ok X0 G (c.fact 72 (f := .glo "law") rfl) },
    lam_c := He.codeOf K ("without_needless_ways", none),
    lam_P := He.tabOf K (He.codeOf K ("without_needless_ways", none)),
    lam_F := G17,
    e_TagError := He.ga K "TagError",
    me_TagError := He.glo_ok X0 G (c.fact 73 (f := .glo "TagError") rfl),
    e_InvalidTags := He.ga K "InvalidTags",
    me_InvalidTags := He.glo_ok X0 G (c.fact 74 (f := .glo "InvalidTags") rfl),
    d_InvalidTags___init__ := { a := He.fAd K ("InvalidTags", some "__init__"), fd := fd49, F := F49, b := F49.binds fun _ _ _ _ _ _ us hl => match us, hl with | [_, _], _ => rfl },
    xt_InvalidTags := QX.excTB_ok b_x_InvalidTags,
    e_InvalidSubject := He.ga K "InvalidSubject",
    me_InvalidSubject := He.glo_ok X0 G (c.fact 75 (f := .glo "InvalidSubject") rfl),
    d_InvalidSubject___init__ := { a := He.fAd K ("InvalidSubject", some "__init__"), fd := fd50, F := F50, b := F50.binds fun _ _ _ _ _ _ us hl => match us, hl with | [_, _], _ => rfl },
    xt_InvalidSubject := QX.excTB_ok b_x_InvalidSubject,
    e_InvalidEater := He.ga K "InvalidEater",
    me_InvalidEater := He.glo_ok X0 G (c.fact 76 (f := .glo "InvalidEater") rfl),
    d_InvalidEater___init__ := { a := He.fAd K ("InvalidEater", some "__init__"), fd := fd51, F := F51, b := F51.binds fun _ _ _ _ _ _ us hl => match us, hl with | [_, _], _ => rfl },
    xt_InvalidEater := QX.excTB_ok b_x_InvalidEater,
    e_InvalidTag := He.ga K "InvalidTag",
    me_InvalidTag := He.glo_ok X0 G (c.fact 77 (f := .glo "InvalidTag") rfl),
    d_InvalidTag___init__ := { a := He.fAd K ("InvalidTag", some "__init__"), fd := fd52, F := F52, b := F52.binds fun _ _ _ _ _ _ us hl => match us, hl with | [_, _], _ => rfl },
    xt_InvalidTag := QX.excTB_ok b_x_InvalidTag,
    e_InvalidPairs := He.ga K "InvalidPairs",
    me_InvalidPairs := He.glo_ok X0 G (c.fact 78 (f := .glo "InvalidPairs") rfl),
    d_InvalidPairs___init__ := { a := He.fAd K ("InvalidPairs", some "__init__"), fd := fd53, F := F53, b := F53.binds fun _ _ _ _ _ _ us hl => match us, hl with | [_, _], _ => rfl },
    xt_InvalidPairs := QX.excTB_ok b_x_InvalidPairs,
    e_InvalidNumber := He.ga K "InvalidNumber",
    me_InvalidNumber := He.glo_ok X0 G (c.fact 79 (f := .glo "InvalidNumber") rfl),
    d_InvalidNumber___init__ := { a := He.fAd K ("InvalidNumber", some "__init__"), fd := fd54, F := F54, b := F54.binds fun _ _ _ _ _ _ us hl => match us, hl with | [_, _], _ => rfl },
    xt_InvalidNumber := QX.excTB_ok b_x_InvalidNumber,
    e_TooMany := He.ga K "TooMany",
    me_TooMany := He.glo_ok X0 G (c.fact 80 (f := .glo "TooMany") rfl),
    d_TooMany___init__ := { a := He.fAd K ("TooMany", some "__init__"), fd := fd55, F := F55, b := F55.binds fun _ _ _ _ _ _ us hl => match us, hl with | [_, _], _ => rfl },
    xt_TooMany := QX.excTB_ok b_x_TooMany,
    ex_InvalidTags := of_decide_eq_true b_e_InvalidTags,
    kv_InvalidTags := of_decide_eq_true b_v_InvalidTags,
    ki_InvalidTags_TagError := of_decide_eq_true b_i_InvalidTags_TagError,
    ki_InvalidTags_InvalidTags := of_decide_eq_true b_i_InvalidTags_InvalidTags,
    ki_InvalidTags_InvalidSubject := of_decide_eq_true b_i_InvalidTags_InvalidSubject,
    ki_InvalidTags_InvalidEater := of_decide_eq_true b_i_InvalidTags_InvalidEater,
    ki_InvalidTags_InvalidTag := of_decide_eq_true b_i_InvalidTags_InvalidTag,
    ki_InvalidTags_InvalidPairs := of_decide_eq_true b_i_InvalidTags_InvalidPairs,
    ki_InvalidTags_InvalidNumber := of_decide_eq_true b_i_InvalidTags_InvalidNumber,
    ki_InvalidTags_TooMany := of_decide_eq_true b_i_InvalidTags_TooMany,
    ex_InvalidSubject := of_decide_eq_true b_e_InvalidSubject,
    kv_InvalidSubject := of_decide_eq_true b_v_InvalidSubject,
    ki_InvalidSubject_TagError := of_decide_eq_true b_i_InvalidSubject_TagError,
    ki_InvalidSubject_InvalidTags := of_decide_eq_true b_i_InvalidSubject_InvalidTags,
    ki_InvalidSubject_InvalidSubject := of_decide_eq_true b_i_InvalidSubject_InvalidSubject,
    ki_InvalidSubject_InvalidEater := of_decide_eq_true b_i_InvalidSubject_InvalidEater,
    ki_InvalidSubject_InvalidTag := of_decide_eq_true b_i_InvalidSubject_InvalidTag,
    ki_InvalidSubject_InvalidPairs := of_decide_eq_true b_i_InvalidSubject_InvalidPairs,
    ki_InvalidSubject_InvalidNumber := of_decide_eq_true b_i_InvalidSubject_InvalidNumber,
    ki_InvalidSubject_TooMany := of_decide_eq_true b_i_InvalidSubject_TooMany,
    ex_InvalidEater := of_decide_eq_true b_e_InvalidEater,
    kv_InvalidEater := of_decide_eq_true b_v_InvalidEater,
    ki_InvalidEater_TagError := of_decide_eq_true b_i_InvalidEater_TagError,
    ki_InvalidEater_InvalidTags := of_decide_eq_true b_i_InvalidEater_InvalidTags,
    ki_InvalidEater_InvalidSubject := of_decide_eq_true b_i_InvalidEater_InvalidSubject,
    ki_InvalidEater_InvalidEater := of_decide_eq_true b_i_InvalidEater_InvalidEater,
    ki_InvalidEater_InvalidTag := of_decide_eq_true b_i_InvalidEater_InvalidTag,
    ki_InvalidEater_InvalidPairs := of_decide_eq_true b_i_InvalidEater_InvalidPairs,
    ki_InvalidEater_InvalidNumber := of_decide_eq_true b_i_InvalidEater_InvalidNumber,
    ki_InvalidEater_TooMany := of_decide_eq_true b_i_InvalidEater_TooMany,
    ex_InvalidTag := of_decide_eq_true b_e_InvalidTag,
    kv_InvalidTag := of_decide_eq_true b_v_InvalidTag,
    ki_InvalidTag_TagError := of_decide_eq_true b_i_InvalidTag_TagError,
    ki_InvalidTag_InvalidTags := of_decide_eq_true b_i_InvalidTag_InvalidTags,
    ki_InvalidTag_InvalidSubject := of_decide_eq_true b_i_InvalidTag_InvalidSubject,
    ki_InvalidTag_InvalidEater := of_decide_eq_true b_i_InvalidTag_InvalidEater,
    ki_InvalidTag_InvalidTag := of_decide_eq_true b_i_InvalidTag_InvalidTag,
    ki_InvalidTag_InvalidPairs := of_decide_eq_true b_i_InvalidTag_InvalidPairs,
    ki_InvalidTag_InvalidNumber := of_decide_eq_true b_i_InvalidTag_InvalidNumber,
    ki_InvalidTag_TooMany := of_decide_eq_true b_i_InvalidTag_TooMany,
    ex_InvalidPairs := of_decide_eq_true b_e_InvalidPairs,
    kv_InvalidPairs := of_decide_eq_true b_v_InvalidPairs,
    ki_InvalidPairs_TagError := of_decide_eq_true b_i_InvalidPairs_TagError,
    ki_InvalidPairs_InvalidTags := of_decide_eq_true b_i_InvalidPairs_InvalidTags,
    ki_InvalidPairs_InvalidSubject := of_decide_eq_true b_i_InvalidPairs_InvalidSubject,
    ki_InvalidPairs_InvalidEater := of_decide_eq_true b_i_InvalidPairs_InvalidEater,
    ki_InvalidPairs_InvalidTag := of_decide_eq_true b_i_InvalidPairs_InvalidTag,
    ki_InvalidPairs_InvalidPairs := of_decide_eq_true b_i_InvalidPairs_InvalidPairs,
    ki_InvalidPairs_InvalidNumber := of_decide_eq_true b_i_InvalidPairs_InvalidNumber,
    ki_InvalidPairs_TooMany := of_decide_eq_true b_i_InvalidPairs_TooMany,
    ex_InvalidNumber := of_decide_eq_true b_e_InvalidNumber,
    kv_InvalidNumber := of_decide_eq_true b_v_InvalidNumber,
    ki_InvalidNumber_TagError := of_decide_eq_true b_i_InvalidNumber_TagError,
    ki_InvalidNumber_InvalidTags := of_decide_eq_true b_i_InvalidNumber_InvalidTags,
    ki_InvalidNumber_InvalidSubject := of_decide_eq_true b_i_InvalidNumber_InvalidSubject,
    ki_InvalidNumber_InvalidEater := of_decide_eq_true b_i_InvalidNumber_InvalidEater,
    ki_InvalidNumber_InvalidTag := of_decide_eq_true b_i_InvalidNumber_InvalidTag,
    ki_InvalidNumber_InvalidPairs := of_decide_eq_true b_i_InvalidNumber_InvalidPairs,
    ki_InvalidNumber_InvalidNumber := of_decide_eq_true b_i_InvalidNumber_InvalidNumber,
    ki_InvalidNumber_TooMany := of_decide_eq_true b_i_InvalidNumber_TooMany,
    ex_TooMany := of_decide_eq_true b_e_TooMany,
    kv_TooMany := of_decide_eq_true b_v_TooMany,
    ki_TooMany_TagError := of_decide_eq_true b_i_TooMany_TagError,
    ki_TooMany_InvalidTags := of_decide_eq_true b_i_TooMany_InvalidTags,
    ki_TooMany_InvalidSubject := of_decide_eq_true b_i_TooMany_InvalidSubject,
    ki_TooMany_InvalidEater := of_decide_eq_true b_i_TooMany_InvalidEater,
    ki_TooMany_InvalidTag := of_decide_eq_true b_i_TooMany_InvalidTag,
    ki_TooMany_InvalidPairs := of_decide_eq_true b_i_TooMany_InvalidPairs,
    ki_TooMany_InvalidNumber := of_decide_eq_true b_i_TooMany_InvalidNumber,
    ki_TooMany_TooMany := of_decide_eq_true b_i_TooMany_TooMany,
    c_Eater := He.ga K "Eater",
    m_Eater := He.glo_ok X0 G (c.fact 81 (f := .glo "Eater") rfl),
    cl_Eater := He.cls_ok (c.fact 82 (f := .cls "Eater") rfl),
    oc_Eater := QE.ownB_ok b_own_Eater,
    d_Eater___init__ := { a := He.fAd K ("Eater", some "__init__"), fd := fd56, F := F56, b := F56.binds fun _ _ _ _ _ _ us hl => match us, hl with | [_, _, _], _ => rfl },
    d_Eater___len__ := { a := He.fAd K ("Eater", some "__len__"), fd := fd57, F := F57, b := F57.binds fun _ _ _ _ _ _ us hl => match us, hl with | [_], _ => rfl },
    h_Eater___len__ := He.meth_ok (c.fact 83 (f := .meth "Eater" "__len__") rfl),
    d_Eater___eq__ := { a := He.fAd K ("Eater", some "__eq__"), fd := fd58, F := F58, b := F58.binds fun _ _ _ _ _ _ us hl => match us, hl with | [_, _], _ => rfl },
    h_Eater___eq__ := He.meth_ok (c.fact 84 (f := .meth "Eater" "__eq__") rfl),
    d_Eater___contains__ := { a := He.fAd K ("Eater", some "__contains__"), fd := fd59, F := F59, b := F59.binds fun _ _ _ _ _ _ us hl => match us, hl with | [_, _], _ => rfl },
    h_Eater___contains__ := He.meth_ok (c.fact 85 (f := .meth "Eater" "__contains__") rfl),
    d_Eater_tags := { a := He.fAd K ("Eater", some "tags"), fd := fd60, F := F60, b := F60.binds fun _ _ _ _ _ _ us hl => match us, hl with | [_], _ => rfl },
    h_Eater_tags := He.meth_ok (c.fact 86 (f := .meth "Eater" "tags") rfl),
    d_Eater_standings := { a := He.fAd K ("Eater", some "standings"), fd := fd61, F := F61, b := F61.binds fun _ _ _ _ _ _ us hl => match us, hl with | [_], _ => rfl },
    h_Eater_standings := He.meth_ok (c.fact 87 (f := .meth "Eater" "standings") rfl),
    d_Eater_on := { a := He.fAd K ("Eater", some "on"), fd := fd62, F := F62, b := F62.binds fun _ _ _ _ _ _ us hl => match us, hl with | [_, _], _ => rfl },
    h_Eater_on := He.meth_ok (c.fact 88 (f := .meth "Eater" "on") rfl),
    d_Eater_settled := { a := He.fAd K ("Eater", some "settled"), fd := fd63, F := F63, b := F63.binds fun _ _ _ _ _ _ us hl => match us, hl with | [_, _], _ => rfl },
    h_Eater_settled := He.meth_ok (c.fact 89 (f := .meth "Eater" "settled") rfl),
    d_Eater_then := { a := He.fAd K ("Eater", some "then"), fd := fd64, F := F64, b := F64.binds fun _ _ _ _ _ _ us hl => match us, hl with | [_, _], _ => rfl },
    h_Eater_then := He.meth_ok (c.fact 90 (f := .meth "Eater" "then") rfl),
    d_Eater_power := { a := He.fAd K ("Eater", some "power"), fd := fd65, F := F65, b := F65.binds fun _ _ _ _ _ _ us hl => match us, hl with | [_, _], _ => rfl },
    h_Eater_power := He.meth_ok (c.fact 91 (f := .meth "Eater" "power") rfl),
    mk_Eater := He.mkr_ok (c.fact 92 (f := .mkr "Eater") rfl),
    na_Eater__standings := He.noat_ok (c.fact 93 (f := .noat "Eater" "_standings") rfl),
    na_Eater__tags := He.noat_ok (c.fact 94 (f := .noat "Eater" "_tags") rfl) }, rfl, rfl, rfl⟩
end Law
end

section
set_option Elab.async false
set_option linter.all false
set_option maxRecDepth 100000
set_option maxHeartbeats 0
namespace Law
open PySem PySem.Spec PyProof.Rows L2 LamX QB QM
abbrev R : PySem.W.OpenRow := PySem.W.OpenLaw.row PySem.Challenge.rw_subjecttags_k11_makers_refused
def tfs : List He.Defn := [("without_needless_ways", none)]
abbrev hk : PySem.W.Hook := He.hookX 5 fas dds [] tfs exB
def ob (s : PySem.W.SharedT) : He.AlX := He.obsX 5 fas dds [] tfs exB (HandSHeadRun.getT s)
theorem ob_eq (s : PySem.W.SharedT) : ob s = hk.obs s.abs := He.obsX_eq (HandSHeadRun.getT_eq s)
def names : List Str := (["_wall", "TagError", "InvalidTags", "InvalidSubject", "InvalidEater", "InvalidTag", "InvalidPairs", "InvalidNumber", "TooMany", "LETTERS", "MOST_LETTERS", "MOST_TAGS", "MOST_STANDINGS", "LONGEST_WORD", "LONGEST_SUBJECT", "is_number", "is_list", "is_name", "is_tag", "is_subject"] : List Str) ++ (["is_standing", "check_tags", "check_word", "check_standings", "check_number", "no_ways", "walked", "made", "is_settled_at", "is_made_at", "copied", "without_needless_ways", "numbered", "parted", "alike_classes", "in_order_met", "least_form", "Eater", "eater_of", "LARGEST_MOST"] : List Str) ++ (["check_tag", "check_some", "is_pair", "check_pairs", "ways_for", "keep", "put", "strip", "once", "exchange", "press", "_law_mixed", "_law_pile", "_law_take", "_law_tags", "_law_done", "_law_told", "_law_is_tag", "_law_tags_due", "_law_list_due"] : List Str) ++ (["_law_pairs_due", "_law_number_due", "_law_due", "_law_things"] : List Str)
theorem run (w : World) : HandSHeadRun.RunEq R (PySem.W.view R.prog [70]) hk ob 8000 names w := by
  intro os
  kernel_rfl
end Law
end

section
set_option Elab.async false
set_option linter.all false
set_option maxRecDepth 100000
set_option maxHeartbeats 0
namespace Law
open PySem PySem.W PySem.Calls PyProof.Rows
theorem hd1 : opening R.prog = plainProg R.prog.main.scope.names := by kernel_rfl
theorem hd2 (s : PySem.Shared) : fenceModules? R.prog s = some s := by kernel_rfl
theorem hd3 : defOf (view R.prog [70]) R.name = some (HandSHeadRun.topDef R.prog 70, []) := by kernel_rfl
theorem hd4 : R.prog.theDef R.name = some ((HandSHeadRun.topDef R.prog 70).params, (HandSHeadRun.topDef R.prog 70).body, (HandSHeadRun.topDef R.prog 70).scope) := by kernel_rfl
theorem hd5 : kwWritten? (HandSHeadRun.topDef R.prog 70).params.kwonlyargs (HandSHeadRun.topDef R.prog 70).params.kw_defaults = some [] := by kernel_rfl
theorem hd6 : (!R.writes || R.records.isEmpty) = true := by rfl
theorem hd7 : R.wellSaid = true := by decide +kernel
theorem hd8 : (chainsOk (view R.prog [70]) && opensWell R.prog && (frees R.toRowW && R.within.isEmpty)) = true := by decide +kernel
theorem hd9 : R.prog.bare := ⟨rfl, rfl, rfl, rfl, rfl, by decide +kernel⟩
theorem hd10 : (HandSHeadRun.topDef R.prog 70).name = ("law" : PySem.Str) := by kernel_rfl
theorem hd11 : (HandSHeadRun.topDef R.prog 70).params.defaults = [] := by kernel_rfl
end Law
namespace Law
open PySem PySem.W PySem.Calls PyProof.Rows
theorem hd12 : importsNone (view R.prog [70]) = true := by decide +kernel
end Law
end

section
set_option Elab.async false
set_option linter.all false
set_option maxRecDepth 100000
set_option maxHeartbeats 0
namespace Law
open PySem PySem.Spec PyProof.Rows L2 LamX QB QM
theorem law_at (w : World) (mg : Str → Option Value) (fa : Addr) (h : Heap) (Y : hk.says w h) (G : h.Ns mainGlobals mg) (hmg : mg ("law" : Str) = some (.ref fa)) :
    ∃ K : PySem.W.Frag, K.In h ∧ QT.LawG PySem.Challenge.rw_subjecttags_k11_makers_refused w K CX0 63 "script" mg fa h := by
  obtain ⟨K, KX, c⟩ := Y
  obtain ⟨X, e1, e2, e3⟩ := tx_mk KX G c.t.d c.more
  have e4 := hmg.symm.trans X.d_law.mg
  have e5 : fa = X.d_law.a := by
    injection e4 with e4
    injection e4
  subst e5
  have hm : (((("without_needless_ways" : Str), (none : Option Str)) : He.Defn)) ∈ tfs := List.mem_singleton.mpr rfl
  have h1 := c.hd _ hm
  have h2 := c.out _ hm
  have h3 := c.empty _ hm
  have c1 : (He.cT K (("without_needless_ways" : Str), (none : Option Str))) = (X.lam_c, X.lam_P) := by rw [e1, e2]; rfl
  rw [c1] at h1 h2 h3
  have hb : ∀ (s : Shared) (u : Value), BindsTo s X.d_law.fd ⟨[u], []⟩ [("script", u)] := by
    obtain ⟨oc, od, kV, doc, pm, an, cdv, ct, osl, hf, _, _⟩ := X.d_law.F.ex
    intro s u
    rw [hf]
    exact .of_eq rfl
  refine ⟨K, KX, X.d_law.fd, [(X.lam_c, X.lam_P)], spLaw K (Tof X), ?_, ?_, ?_, hb, ?_, ?_⟩
  · intro p hp
    rw [List.mem_singleton.mp hp]
    exact h3
  · intro p hp
    rw [List.mem_singleton.mp hp]
    exact h2
  · intro p hp
    rw [List.mem_singleton.mp hp]
    exact PySem.W.codeHd_of_K KX h1
  · intro H a ns hl hT hS
    refine ⟨a, ns, rfl, hS, fun q hq => ?_, fun _ => rfl⟩
    rw [List.mem_singleton.mp hq]
    exact ⟨#[], hT _ (List.mem_singleton.mpr rfl), by simp [TriplesOk], fun pos cv h => by cases h⟩
  · intro base _ _ hB TB
    exact ok_law X (TB _ (List.mem_singleton.mpr rfl)) hB ⟨rfl, by decide, by decide⟩
end Law
open PySem PySem.W PySem.Calls PyProof.Rows
theorem k11_end : PySem.Challenge.rw_subjecttags_k11_makers_refused.Holds := by
  w_on; o_law
  refine HandSHeadRun.head_any (r := Law.R) (q := view Law.R.prog [70]) (H := Law.hk) (ob := Law.ob) (M := 8000) (loose := Law.names) (d := HandSHeadRun.topDef Law.R.prog 70) (kwd := []) Law.ob_eq
    Law.hd1 Law.hd2 Law.run Law.hd3 Law.hd4 Law.hd5 Law.hd6 Law.hd7 Law.hd8 Law.hd9 ?hw ?hc
  case hw => w_witness2
  case hc =>
    refine QT.walk_ofG (l := PySem.Challenge.rw_subjecttags_k11_makers_refused) (n := 63) (x := "script") (CX := fun _ => L2.CX0) rfl (by decide) Law.hd11 Law.hd12 ?F (fun _ _ _ _ _ z => z)
    intro w mg fa h Y G hmg0
    rw [Law.hd10] at hmg0
    exact Law.law_at w mg fa h Y G hmg0
end

theorem PySem.Challenge.cw_subjecttags_k11_makers_refused_holds : PySem.Challenge.rw_subjecttags_k11_makers_refused.Holds := by
  exact k11_end
