/- Package slots, landed: all that the laws ask of it. -/
import Derived.Test.YteannfenkmejjaaSlAllOfI
import Derived.Test.YteannfenkmejjaaSlAllOfS
import Derived.Test.YteannfenkmejjaaSlNil
